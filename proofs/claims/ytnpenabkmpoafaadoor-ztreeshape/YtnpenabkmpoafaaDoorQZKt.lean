/- A tree beside what was there; Size; awake. -/
import Derived.Test.YtnpenabkmpoafaaDoorQZNew
import Derived.Lib.SlBytesConst
set_option linter.unusedSimpArgs false
set_option linter.unusedVariables false
namespace Go.Proofs.YtnpenabkmpoafaaDoor
open Go.RowKit
/-- The tree lies in blocks younger than w0; all that was in w0 reads as it did. -/
def KT (w0 w : World) (tb : Nat) (t : ZT) (lim : Nat) : Prop := ∃ mb st, ∃ F : Nat → Prop, TreeAt w tb mb st lim F ∧ plainZ st = t ∧ (∀ g, F g → w0.heap.size ≤ g ∧ g < w.heap.size) ∧ Kept w0 w
section
variable {w0 w w' : World} {tb : Nat} {t : ZT} {lim : Nat}
theorem KT.kept (h : KT w0 w tb t lim) (k : Kept w w') : KT w0 w' tb t lim := by
  obtain ⟨mb, st, F, h1, h2, h3, h4⟩ := h
  have := k.size
  exact ⟨mb, st, F, h1.kept k, h2, fun g x => ⟨(h3 g x).1, by have := (h3 g x).2; omega⟩, h4.trans k⟩
theorem KT.old (h : KT w0 w tb t lim) : Kept w0 w := by
  obtain ⟨mb, st, F, h1, h2, h3, h4⟩ := h
  exact h4
theorem KT.more (h : KT w0 w tb t lim) {lim' : Nat} (hl : lim ≤ lim') : KT w0 w tb t lim' := by
  obtain ⟨mb, st, F, h1, h2, h3, h4⟩ := h
  exact ⟨mb, st, F, h1.more hl, h2, h3, h4⟩
theorem KT.srt (h : KT w0 w tb t lim) : SrtZ t := by
  obtain ⟨mb, st, F, h1, rfl, h3, h4⟩ := h
  exact srt_mapZ.2 h1.srt
theorem new_kt (w : World) : Calls Tryd.prog 12 #[] w fun e w' => ∃ tb, e = .returned (.pointer (some ⟨tb, 0, none⟩)) ∧ KT w w' tb newT 0 := by
  refine (znew_any w).mono ?_
  rintro e w' ⟨tb, mb, st, h1, h2, h3, h4⟩
  exact ⟨tb, h1, mb, st, _, h2, h3, fun g x => x.elim (fun y => y.elim) id, h4⟩
theorem createP_bad {t : ZT} {p : Pth} {dl : Nat} {owner : Int} {seq : Bool} (h : createE t p dl owner seq ≠ 0) : createP t p dl owner seq = [] := by
  unfold createE createP at *
  rcases create_cases t p dl owner seq with ⟨hp, hq⟩ | ⟨up, hp, ⟨hd, hq⟩ | ⟨hd, ⟨ho, hq⟩ | ⟨ho, ⟨hg, hq⟩ | ⟨n, hg, ⟨h3, hq⟩ | ⟨h3, ⟨hh, hq⟩ | ⟨hh, hq⟩⟩⟩⟩⟩⟩
  all_goals first | (rw [hq]; done) | (rw [hq] at h; exact absurd rfl h)
theorem create_kt (h : KT w0 w tb t lim) (p : Pth) (data : List UInt8) (v : Value) (owner : Int) (seq : Bool) (hv : Bts w v data) (htab : TbZ w0) (hlim : lim + 2 < 4611686018427387903) :
    Calls Tryd.prog 13 #[.pointer (some ⟨tb, 0, none⟩), .string ⟨p.toArray⟩, v, .int .i64 owner, .bool seq] w fun e w' => e = .returned (.tuple #[.string ⟨(createP t p data.length owner seq).toArray⟩, .int .i64 (createE t p data.length owner seq)]) ∧ KT w0 w' tb (createS t p data owner seq) (lim + 1) ∧ Chg (fun g => w0.heap.size ≤ g) w w' := by
  obtain ⟨mb, st, F, h1, rfl, h3, h4⟩ := h
  by_cases hE : createE (plainZ st) p data.length owner seq = 0
  · refine (create_ok h1 p data v owner seq hv (htab.kept h4) hE hlim).mono ?_
    rintro e w' ⟨rfl, ⟨st', h5, h6⟩, h7⟩
    have hs := h7.size
    have hs0 := h4.size
    refine ⟨by rw [hE], ⟨mb, st', _, h5, h6, fun g x => ?_, h7.kept h4 (fun g x => (h3 g x).1)⟩, h7.mono fun g _ x => (h3 g x).1⟩
    rcases x with x | x
    · exact ⟨(h3 g x).1, by have := (h3 g x).2; omega⟩
    · exact ⟨by omega, x.2⟩
  · refine (create_bad h1 p data v owner seq hv (htab.kept h4) hE).mono ?_
    rintro e w' ⟨rfl, hk⟩
    have hs := hk.size
    refine ⟨by rw [createP_bad hE], ⟨mb, st, F, (h1.kept hk).more (Nat.le_succ _), ?_, fun g x => ⟨(h3 g x).1, by have := (h3 g x).2; omega⟩, h4.trans hk⟩, Chg.of_kept hk⟩
    unfold createS
    rw [if_neg hE]
theorem delete_kt (h : KT w0 w tb t lim) (p : Pth) (v : Int) (hlim : lim + 2 < 4611686018427387903) :
    Calls Tryd.prog 16 #[.pointer (some ⟨tb, 0, none⟩), .string ⟨p.toArray⟩, .int .i64 v] w fun e w' => e = .returned (.int .i64 (deleteE t p v)) ∧ KT w0 w' tb (deleteS t p v) (lim + 1) ∧ Chg (fun g => w0.heap.size ≤ g) w w' := by
  obtain ⟨mb, st, F, h1, rfl, h3, h4⟩ := h
  refine (delete_any h1 p v hlim).mono ?_
  rintro e w' ⟨rfl, ⟨st', h5, h6⟩, h7⟩
  have hs := h7.size
  have hs0 := h4.size
  refine ⟨rfl, ⟨mb, st', _, h5, h6, fun g x => ?_, h7.kept h4 (fun g x => (h3 g x).1)⟩, h7.mono fun g _ x => (h3 g x).1⟩
  rcases x with x | x
  · exact ⟨(h3 g x).1, by have := (h3 g x).2; omega⟩
  · exact ⟨by omega, x.2⟩
set_option maxRecDepth 100000 in
set_option maxHeartbeats 1000000 in
theorem size_kt (h : KT w0 w tb t lim) :
    Calls Tryd.prog 7 #[.pointer (some ⟨tb, 0, none⟩)] w fun e w' => e = .returned (.int .i64 (t.length : Int)) ∧ w = w' := by
  obtain ⟨mb, st, F, h1, rfl, h3, h4⟩ := h
  have c0 := h1.c0
  have hlen := World.ownsMap.len h1.owns Tryd.underlying58 3
  rw [toDZ_size] at hlen
  have hl : (plainZ st).length = st.length := length_mapZ _ _
  rw [hl]
  have HL := Lib.hid hl
  clear h1 h3 h4 hl
  go_enter Tryd.func7, Tryd.ntmps7
  go_wp2
  go_ret
  exact ⟨rfl, rfl⟩
end
set_option maxRecDepth 100000 in
set_option maxHeartbeats 1000000 in
theorem awakeZ_any (w : World) (htab : TbZ w) : Calls Tryd.prog 11 #[] w fun e w' => e = .returned (.bool true) ∧ Kept w w' := by
  have HN := Lib.hid (new_kt w)
  have HT := Lib.hid htab
  have kc := fun (w : World) (C : Array Value) (n c : Nat) => Lib.run_convert_bytes_const (P := Tryd.prog) w 30 5 C n c Tryd.underlying30 Tryd.underlying5
  clear htab
  go_enter Tryd.func11, Tryd.ntmps11
  go_wp2_with fail
  refine HN.out.mono ?_
  rintro e w1 ⟨tb, rfl, h1⟩
  have H1 := Lib.hid h1
  clear h1
  have kc2 := kc w1 #[.int .u8 120] 1 1
  clear kc
  go_wp2_with fail
  have hka := (Kept.refl w1).alloc (.cells #[.int .u8 120] 5 (1, 2))
  have hna := heap_alloc_new w1 (.cells #[.int .u8 120] 5 (1, 2))
  have hb : Bts (w1.alloc (.cells #[.int .u8 120] 5 (1, 2))) (.slice (some ⟨w1.heap.size, 0, none⟩) 1 1) [120] := by
    refine ⟨_, 1, rfl, Nat.le_refl _, by decide, fun _ => ⟨_, 0, rfl, fun k y hy => ?_⟩⟩
    match k, hy with
    | 0, hy =>
      obtain rfl : (120 : UInt8) = y := by simpa using hy
      rw [Nat.zero_add, cell_at hna]
      rfl
  have he : createE newT [47, 97] ([120] : List UInt8).length 0 false = 0 := by decide +kernel
  have hp : createP newT [47, 97] ([120] : List UInt8).length 0 false = [47, 97] := by decide +kernel
  have hc := create_kt (H1.out.kept hka) [47, 97] [120] _ 0 false hb HT.out (by decide)
  rw [he, hp] at hc
  have HC := Lib.hid hc
  clear kc2 hna he hp hc hb hka
  refine HC.out.mono ?_
  rintro e w2 ⟨rfl, h2, -⟩
  have he : createE (createS newT [47, 97] [120] 0 false) [47, 97, 47, 115] ([] : List UInt8).length 0 true = 0 := by decide +kernel
  have hp : createP (createS newT [47, 97] [120] 0 false) [47, 97, 47, 115] ([] : List UInt8).length 0 true = [47, 97, 47, 115, 48, 48, 48, 48, 48, 48, 48, 48, 48, 48] := by decide +kernel
  have hs : (createS (createS newT [47, 97] [120] 0 false) [47, 97, 47, 115] [] 0 true).length = 3 := by decide +kernel
  have hc := create_kt h2 [47, 97, 47, 115] [] (.slice none 0 0) 0 true (Bts.nil _) HT.out (by decide)
  rw [he, hp] at hc
  have HC2 := Lib.hid hc
  have HS := Lib.hid hs
  clear he hp hc h2 hs
  go_wp2_with fail
  refine HC2.out.mono ?_
  rintro e w3 ⟨rfl, h3, -⟩
  have hz := size_kt h3
  rw [HS.out] at hz
  have HZ := Lib.hid hz
  have HK3 := Lib.hid h3.old
  clear hz h3
  go_wp2_with fail
  refine HZ.out.mono ?_
  rintro e w4 ⟨rfl, rfl⟩
  go_wp2
  go_ret
  exact ⟨rfl, HK3.out⟩
end Go.Proofs.YtnpenabkmpoafaaDoor
