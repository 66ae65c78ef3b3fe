/- The bound of the second form, for the row proofs of this seat. -/
import Derived.Test.YtlkcooedlkhacaaDoorRow
namespace Go.Proofs.YtlkcooedlkhacaaDoor
open Go.ChangeShapes Go.WideShapes Go.ChangeAt Go.RowKit
theorem bulk_pos {H : Type} (d : DataW H) : 1 ≤ Rows.uptoBulk d := by
  cases d with
  | lit v => cases v <;> simp [Rows.uptoBulk]
  | _ => simp [Rows.uptoBulk]
theorem bulk_len {H : Type} (l : List (DataW H)) : l.length ≤ Rows.uptoBulkAll l := by
  induction l with
  | nil => simp
  | cons d l ih => have := bulk_pos d; simp only [Rows.uptoBulkAll, List.length_cons]; omega
theorem bulk_mem {H : Type} {l : List (DataW H)} {d : DataW H} (h : d ∈ l) : Rows.uptoBulk d ≤ Rows.uptoBulkAll l := by
  induction l with
  | nil => cases h
  | cons e l ih =>
    simp only [Rows.uptoBulkAll]
    rcases List.mem_cons.1 h with rfl | h
    · omega
    · have := ih h; omega
theorem Long.upto {H : Type} {ds : List (DataW H)} {d : DataW H} {n : Nat} (hup : Rows.uptoBulkAll ds ≤ 1048576) (hl : Long d n) (hm : d ∈ ds) : n ≤ 1048576 := by
  have h1 := bulk_mem hm
  rcases hl with rfl | ⟨elems, spare, rfl, hn⟩
  · exact Nat.zero_le _
  · have h2 := bulk_len elems
    have h3 := bulk_len spare
    simp only [Rows.uptoBulk] at h1
    omega
end Go.Proofs.YtlkcooedlkhacaaDoor
