/- The walks of the program's fits and Name, and of the document's Name. -/
import Derived.Test.YtmodolighoojoaaGreatDoorProg
import Derived.Test.YtmodolighoojoaaGreatDoorGCrc3
import Derived.Test.YtmodolighoojoaaGreatDoorQPMath
import Derived.Laws.RangeAny
namespace Go.Proofs.YtmodolighoojoaaGreatDoor
open Go.RowKit
def okR (r : Int) : Bool := (decide (97 ≤ r) && decide (r ≤ 122)) || (decide (48 ≤ r) && decide (r ≤ 57)) || r == 46 || r == 95 || r == 45
theorem okR_byte (c : UInt8) : okR (c.toNat : Int) = okB c := by
  have h : ∀ k : Nat, k < 256 → (c = UInt8.ofNat k ↔ c.toNat = k) := fun k hk => by
    constructor
    · rintro rfl; rw [UInt8.toNat_ofNat']; omega
    · rintro h; rw [← h]; simp
  rw [Bool.eq_iff_iff]
  simp only [okR, okB, Bool.or_eq_true, Bool.and_eq_true, decide_eq_true_eq, beq_iff_eq, UInt8.le_iff_toNat_le]
  rw [show (46 : UInt8) = UInt8.ofNat 46 from rfl, show (95 : UInt8) = UInt8.ofNat 95 from rfl, show (45 : UInt8) = UInt8.ofNat 45 from rfl, h 46 (by decide), h 95 (by decide), h 45 (by decide)]
  simp
  omega
theorem okR_high (n : Nat) (h : 128 ≤ n) : okR (n : Int) = false := by
  simp only [okR, Bool.or_eq_false_iff, Bool.and_eq_false_iff, decide_eq_false_iff_not, beq_eq_false_iff_ne]
  omega
theorem ret_bool {a b : Bool} (h : a = b) : Ending.returned (.bool a) = .returned (.bool b) := by rw [h]
set_option maxHeartbeats 400000 in
theorem fits_any (r : Int) (w : World) : Calls Tryz.prog 214 #[.int .i32 r] w fun e w' => e = .returned (.bool (okR r)) ∧ w = w' := by
  go_enter Tryz.func214, Tryz.ntmps214
  go_wp2
  all_goals (go_ret; refine ⟨ret_bool ?_, rfl⟩; first | rfl | (rw [Bool.eq_iff_iff]; simp [okR]; omega))

theorem str_size (l : List UInt8) : (⟨l.toArray⟩ : ByteArray).size = l.length := by simp [ByteArray.size]
theorem str_get (l : List UInt8) (k : Nat) (h : k < (⟨l.toArray⟩ : ByteArray).size) : (⟨l.toArray⟩ : ByteArray)[k]'h = l[k]'(by rw [str_size] at h; exact h) := by
  show (l.toArray)[k] = _
  simp
theorem isName_short (l : List UInt8) (h : l = [] ∨ l = [46] ∨ l = [46, 46] ∨ 32 < l.length) : isName l = false := by
  rcases h with rfl | rfl | rfl | h
  · rfl
  · rfl
  · rfl
  · simp [isName]; omega
theorem isName_iff (l : List UInt8) (h0 : l ≠ []) (h1 : l ≠ [46]) (h2 : l ≠ [46, 46]) (h3 : l.length ≤ 32) : isName l = l.all okB := by
  have : 1 ≤ l.length := by
    cases l with
    | nil => exact absurd rfl h0
    | cons c r => simp
  simp [isName, h1, h2, h3, this]
theorem all_bad {l : List UInt8} {k : Nat} (hk : k < l.length) (h : okB l[k] = false) : l.all okB = false := by
  rw [List.all_eq_false]
  exact ⟨l[k], List.getElem_mem hk, by simp [h]⟩
theorem all_take {l : List UInt8} {k : Nat} (hk : k < l.length) (h : (l.take k).all okB = true) (hb : okB l[k] = true) : (l.take (k + 1)).all okB = true := by
  rw [List.take_succ_eq_append_getElem hk, List.all_append, h, Bool.true_and]
  simp [hb]

set_option maxRecDepth 100000 in
set_option maxHeartbeats 400000 in
theorem name_long (l : List UInt8) (w : World) (h0 : l ≠ []) (h1 : l ≠ [46]) (h2 : l ≠ [46, 46]) (h3 : l.length ≤ 32) :
    Calls Tryz.prog 174 #[.string ⟨l.toArray⟩] w fun e w' => e = .returned (.bool (isName l)) ∧ Kept w w' := by
  have HN := Lib.hid (isName_iff l h0 h1 h2 h3)
  have t0 : (l == []) = false := by simpa using h0
  have t1 : (l == [46]) = false := by simpa using h1
  have t2 : (l == [46, 46]) = false := by simpa using h2
  have t3 : decide ((32 : Int) < (l.length : Int)) = false := by simp; omega
  clear h0 h1 h2
  go_enter Tryz.func174, Tryz.ntmps174
  go_wp2
  go_loopw [4] (fun _ W => ∃ k : Nat, k ≤ l.length ∧ W = w.iter ⟨l.toArray⟩ k ∧ (l.take k).all okB = true) (fun _ W => l.length - W.iterPos w.heap.size)
  case atStart => exact ⟨0, Nat.zero_le _, rfl, rfl⟩
  case round =>
    obtain ⟨k, hk, rfl, hall⟩ := hrel
    have hkw : ∀ j, Kept w (w.iter ⟨l.toArray⟩ j) := fun j => (Kept.refl w).alloc _
    have HK := Lib.hid hkw
    clear hkw
    by_cases hlt : k < l.length
    · have hp : k < (⟨l.toArray⟩ : ByteArray).size := by rw [str_size]; exact hlt
      have HA := Lib.hid hall
      clear hall
      by_cases ha : ((⟨l.toArray⟩ : ByteArray)[k]'hp).toNat < 128
      · have hnx : ∀ ty, (Instr.next (.pointer (some ⟨w.heap.size, 0, none⟩)) true ty).run Tryz.prog (w.iter ⟨l.toArray⟩ k) = _ := fun ty => run_next_ascii w ⟨l.toArray⟩ k ty hp ha
        rw [str_get] at hnx
        clear ha
        go_wp2_with fail
        refine (fits_any _ _).mono ?_
        rintro e w' ⟨rfl, rfl⟩
        rw [okR_byte]
        cases hb : okB l[k] with
        | true =>
          have HB := Lib.hid hb
          clear hb
          go_wp2
          go_roundw
          case rel => exact ⟨k + 1, by omega, rfl, all_take hlt HA.out HB.out⟩
          case measure => simp; omega
        | false =>
          have HB := Lib.hid (all_bad hlt hb)
          clear hb
          go_wp2
          go_ret
          exact ⟨ret_bool (by rw [HN.out, HB.out]), HK.out _⟩
      · have hnx : ∀ ty, (Instr.next (.pointer (some ⟨w.heap.size, 0, none⟩)) true ty).run Tryz.prog (w.iter ⟨l.toArray⟩ k) = _ := fun ty => run_next_any w ⟨l.toArray⟩ k ty hp
        have hd := decode_high ⟨l.toArray⟩ k hp (by omega)
        have hb : okB l[k] = false := by
          rw [← okR_byte]; rw [str_get] at ha; exact okR_high _ (by omega)
        have HB := Lib.hid (all_bad hlt hb)
        clear hb ha
        obtain ⟨hd1, -⟩ := hd
        generalize Utf8.decode ⟨l.toArray⟩ k = d at *
        go_wp2_with fail
        refine (fits_any _ _).mono ?_
        rintro e w' ⟨rfl, rfl⟩
        rw [okR_high _ hd1]
        go_wp2
        go_ret
        exact ⟨ret_bool (by rw [HN.out, HB.out]), HK.out _⟩
    · obtain rfl : k = l.length := by omega
      rw [List.take_length] at hall
      have HA := Lib.hid hall
      clear hall
      have hnx : ∀ ty, (Instr.next (.pointer (some ⟨w.heap.size, 0, none⟩)) true ty).run Tryz.prog (w.iter ⟨l.toArray⟩ l.length) = _ := fun ty => run_next_end w ⟨l.toArray⟩ l.length ty (by rw [str_size]; omega)
      go_wp2
      go_ret
      exact ⟨ret_bool (by rw [HN.out, HA.out]), HK.out _⟩

set_option maxHeartbeats 400000 in
theorem name_any (l : List UInt8) (w : World) :
    Calls Tryz.prog 174 #[.string ⟨l.toArray⟩] w fun e w' => e = .returned (.bool (isName l)) ∧ Kept w w' := by
  by_cases h0 : l = []
  · subst h0
    go_enter Tryz.func174, Tryz.ntmps174
    go_wp2
    go_ret
    exact ⟨rfl, Kept.refl _⟩
  by_cases h1 : l = [46]
  · subst h1
    go_enter Tryz.func174, Tryz.ntmps174
    go_wp2
    go_ret
    exact ⟨rfl, Kept.refl _⟩
  by_cases h2 : l = [46, 46]
  · subst h2
    go_enter Tryz.func174, Tryz.ntmps174
    go_wp2
    go_ret
    exact ⟨rfl, Kept.refl _⟩
  by_cases h3 : l.length ≤ 32
  · exact name_long l w h0 h1 h2 h3
  · have HN := Lib.hid (isName_short l (.inr (.inr (.inr (by omega)))))
    have t0 : (l == []) = false := by simpa using h0
    have t1 : (l == [46]) = false := by simpa using h1
    have t2 : (l == [46, 46]) = false := by simpa using h2
    have t3 : decide ((32 : Int) < (l.length : Int)) = true := by simp; omega
    clear h0 h1 h2
    go_enter Tryz.func174, Tryz.ntmps174
    go_wp2
    go_ret
    exact ⟨ret_bool HN.out.symm, Kept.refl _⟩
end Go.Proofs.YtmodolighoojoaaGreatDoor
