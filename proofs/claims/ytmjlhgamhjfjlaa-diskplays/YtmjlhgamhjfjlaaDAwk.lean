/- The walk of awake. -/
import Derived.Test.YtmjlhgamhjfjlaaDKit
import Derived.Lib.SlBytesConst
set_option linter.unusedSimpArgs false
set_option linter.unusedVariables false
namespace Go.Proofs.Ytmjlhgamhjfjlaa
open Go.RowKit
theorem read_dk (k : Nm) (d : Value) (cap : Nat) (fs : Fls) (w0 w : World) (h : DK w0 w d cap fs) :
    Calls Try.prog 24 #[d, .string ⟨k.toArray⟩] w fun e w' => ∃ v, e = .returned (.tuple #[v, .int .i64 (allS [k] fs)]) ∧ w'.ownsRow w.heap.size 5 1 v (if allS [k] fs = 0 then ((getA k fs).getD ([], 0)).1 else []).length (Lib.byteCells (if allS [k] fs = 0 then ((getA k fs).getD ([], 0)).1 else [])) ∧ Kept w w' :=
  read_any k cap fs _ d w h.1
/-- Read, of the one file that is there. -/
theorem read_one (k : Nm) (a : List UInt8) (s : Nat) (d : Value) (cap : Nat) (w0 w : World) (hk : okN k = true) (h : DK w0 w d cap [(k, (a, s))]) :
    Calls Try.prog 24 #[d, .string ⟨k.toArray⟩] w fun e w' => ∃ v, e = .returned (.tuple #[v, .int .i64 0]) ∧ w'.ownsRow w.heap.size 5 1 v a.length (Lib.byteCells a) ∧ DK w0 w' d cap [(k, (a, s))] ∧ Kept w w' := by
  refine (read_dk k d cap _ w0 w h).mono ?_
  rintro e w' ⟨v, h1, h2, h3⟩
  rw [allS_one k _ hk] at h1 h2
  rw [if_pos rfl, getA_one] at h2
  exact ⟨v, h1, h2, h.kept h3, h3⟩
theorem append_first (k : Nm) (b : List UInt8) (vb d : Value) (cap : Nat) (w0 w w1 : World) (h : DK w0 w d cap []) (hk : Kept w w1) (hb : Bts w1 vb b) (hn : okN k = true) (hl : b.length ≤ cap) :
    Calls Try.prog 11 #[d, .string ⟨k.toArray⟩, vb] w1 fun e w' => e = .returned (.int .i64 0) ∧ DK w0 w' d cap [(k, (b, 0))] := by
  refine (append_dk k b vb d cap [] w0 w w1 h hk hb (by simp)).mono ?_
  have e : okA cap k b [] = 0 := okA_zero hn (by simpa [used] using hl)
  rintro e' w' ⟨h1, h2, -⟩
  rw [e] at h1 h2
  rw [if_pos rfl, appS_nil] at h2
  exact ⟨h1, h2⟩
theorem append_next (k : Nm) (a b : List UInt8) (s : Nat) (vb d : Value) (cap : Nat) (w0 w w1 : World) (h : DK w0 w d cap [(k, (a, s))]) (hk : Kept w w1) (hb : Bts w1 vb b) (hn : okN k = true) (hl : a.length + b.length ≤ cap) :
    Calls Try.prog 11 #[d, .string ⟨k.toArray⟩, vb] w1 fun e w' => e = .returned (.int .i64 0) ∧ DK w0 w' d cap [(k, (a ++ b, s))] := by
  refine (append_dk k b vb d cap _ w0 w w1 h hk hb (by simp)).mono ?_
  have e : okA cap k b [(k, (a, s))] = 0 := okA_zero hn (by simpa [used] using hl)
  rintro e' w' ⟨h1, h2, -⟩
  rw [e] at h1 h2
  rw [if_pos rfl, appS_one] at h2
  exact ⟨h1, h2⟩
theorem sync_one (k : Nm) (a : List UInt8) (s : Nat) (t : TypeId) (d : Value) (cap : Nat) (w0 w : World) (h : DK w0 w d cap [(k, (a, s))]) (hn : okN k = true) :
    Calls Try.prog 13 #[d, .slice (some ⟨w.heap.size, 0, none⟩) 1 1] (w.alloc (.cells #[.string ⟨k.toArray⟩] t)) fun e w' => e = .returned (.int .i64 0) ∧ DK w0 w' d cap [(k, (a, a.length))] := by
  refine (sync_dk [k] _ d cap _ w0 w _ h ((Kept.refl w).alloc _) (Txts.fresh w0 w k t)).mono ?_
  rintro e' w' ⟨h1, h2, -⟩
  rw [allS_one k _ hn] at h1 h2
  rw [if_pos rfl, syncS_one] at h2
  exact ⟨h1, h2⟩
theorem crash_first (k : Nm) (a : List UInt8) (s : Nat) (c : Int) (t : TypeId) (d : Value) (cap : Nat) (w0 w : World) (h : DK w0 w d cap [(k, (a, s))]) :
    Calls Try.prog 19 #[d, .slice (some ⟨w.heap.size, 0, none⟩) 1 1] (w.alloc (.cells #[.int .i64 c] t)) fun e w' => e = .returned (.tuple #[]) ∧ DK w0 w' d cap [(k, (a.take (keptN (a, s) c), keptN (a, s) c))] := by
  refine (crash_dk [c] _ d cap _ w0 w _ h ((Kept.refl w).alloc _) (Ints.lit' w0 w [c] t (by simp [maxLen]))).mono ?_
  rintro e' w' ⟨h1, h2, -⟩
  rw [crashS_head] at h2
  exact ⟨h1, h2⟩
theorem crash_pair (k : Nm) (a : List UInt8) (s : Nat) (c c' : Int) (t : TypeId) (d : Value) (cap : Nat) (w0 w : World) (h : DK w0 w d cap [(k, (a, s))]) :
    Calls Try.prog 19 #[d, .slice (some ⟨w.heap.size, 0, none⟩) 2 2] (w.alloc (.cells #[.int .i64 c, .int .i64 c'] t)) fun e w' => e = .returned (.tuple #[]) ∧ DK w0 w' d cap [(k, (a.take (keptN (a, s) c), keptN (a, s) c))] := by
  refine (crash_dk [c, c'] _ d cap _ w0 w _ h ((Kept.refl w).alloc _) (Ints.lit' w0 w [c, c'] t (by simp [maxLen]))).mono ?_
  rintro e' w' ⟨h1, h2, -⟩
  rw [crashS_head] at h2
  exact ⟨h1, h2⟩
set_option maxRecDepth 100000 in
set_option maxHeartbeats 4000000 in
theorem awake_any (w : World) : Calls Try.prog 9 #[] w fun e w' => e = .returned (.bool true) ∧ Kept w w' := by
  have HN := Lib.hid (new_dk 99 w w (Kept.refl w) (by omega))
  have kc := fun (w : World) (C : Array Value) (n c : Nat) => Lib.run_convert_bytes_const (P := Try.prog) w 32 5 C n c Try.underlying32 Try.underlying5
  go_enter Try.func9, Try.ntmps9
  go_wp2_with fail
  refine HN.out.mono ?_
  rintro e w1 ⟨db, rfl, h1⟩
  have H1 := Lib.hid h1
  clear h1
  go_wp2_with fail
  refine (append_first [97] [104, 101, 108, 108, 111] _ _ 99 w w1 _ H1.out ((Kept.refl w1).alloc _) (Bts.lit w1 [104, 101, 108, 108, 111] _ _ (by simp [maxLen])) (by decide) (by simp)).mono ?_
  rintro e w2 ⟨rfl, h2⟩
  have H2 := Lib.hid h2
  clear h2
  go_wp2_with fail
  refine (sync_one [97] _ _ _ _ 99 w w2 H2.out (by decide)).mono ?_
  rintro e w3 ⟨rfl, h3⟩
  have H3 := Lib.hid h3
  clear h3
  go_wp2_with fail
  refine (append_next [97] _ [32, 121, 111, 117] _ _ _ 99 w w3 _ H3.out ((Kept.refl w3).alloc _) (Bts.lit w3 [32, 121, 111, 117] _ _ (by simp [maxLen])) (by decide) (by simp)).mono ?_
  rintro e w4 ⟨rfl, h4⟩
  have H4 := Lib.hid h4
  clear h4
  go_wp2_with fail
  refine (crash_first [97] _ _ 2 _ _ 99 w w4 H4.out).mono ?_
  rintro e w5 ⟨rfl, h5⟩
  rw [show keptN ([104, 101, 108, 108, 111] ++ [32, 121, 111, 117], ([104, 101, 108, 108, 111] : List UInt8).length) 2 = 7 by decide, show (([104, 101, 108, 108, 111] ++ [32, 121, 111, 117] : List UInt8).take 7) = [104, 101, 108, 108, 111, 32, 121] by decide] at h5
  have H5 := Lib.hid h5
  clear h5
  go_wp2_with fail
  refine (read_one [97] _ _ _ 99 w w5 (by decide) H5.out).mono ?_
  rintro e w6 ⟨v, rfl, h6, h7, -⟩
  have hc := conv_run (Bts.of_own h6)
  obtain ⟨A6, c6, rfl⟩ := own_form h6
  have H7 := Lib.hid h7
  have hc : (convert 32 9 (.slice A6 7 c6)).run Try.prog w6 = .ok (.string ⟨#[104, 101, 108, 108, 111, 32, 121]⟩) w6 := hc
  clear h6 h7
  go_wp2
  go_ret
  exact ⟨rfl, H7.out.2⟩
end Go.Proofs.Ytmjlhgamhjfjlaa
