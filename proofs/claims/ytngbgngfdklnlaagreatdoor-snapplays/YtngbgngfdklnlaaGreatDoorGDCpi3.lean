/- The walk of the document's CopyInts. Both disks beside other rows; three disks. The calls on both disks, beside rows that they keep clear of. -/
import Derived.Test.YtngbgngfdklnlaaGreatDoorQDRcrs
import Derived.Laws.CopyOwn
import Derived.Test.YtngbgngfdklnlaaGreatDoorGDJk3
set_option linter.unusedSimpArgs false
set_option linter.unusedVariables false
namespace Go.Proofs.YtngbgngfdklnlaaGreatDoor
open Go.RowKit
theorem size_int : (Tryz.prog.info? 3).map (·.size) = some 1 := by kernel_rfl
set_option maxRecDepth 100000 in
set_option maxHeartbeats 4000000 in
theorem copyInts_any (l : List Int) (v : Value) (w : World) (hv : Ints w v l) (hl : l.length ≤ 17592186044416) :
    Calls Tryz.prog 13 #[v] w fun e w' => ∃ v', e = .returned v' ∧ w'.ownsRow w.heap.size 3 1 v' l.length (l.map (Value.int .i64)) ∧ Kept w w' := by
  obtain ⟨A, c, rfl, hc1, hc2, hcs⟩ := hv
  unfold maxLen at hc2
  obtain ⟨i, hi, hz, hs, hb⟩ := info_int
  obtain ⟨w1, hmk, hrow, hgr⟩ := run_make_full (P := Tryz.prog) w w.heap.size 33 3 i (.int .i64 0) 1 Tryz.underlying33 hi hz hs .i64 .i64 l.length (by rw [hb]; omega) (by unfold maxLen; omega) (Nat.le_refl _)
  have hk1 : Kept w w1 := (Chg.of_grown (F := no) hgr (fun g hg => by cases hg)).to_kept
  obtain ⟨cur, hcur, hcs2⟩ : ∃ cur : Array Value, w1.heap[w.heap.size]? = some (.cells cur 3 (0, 0)) ∧ cur.size = l.length := by
    rcases hrow.2 with ⟨e, -⟩ | ⟨g, cap, cur, e, -, h1, -, -, h2, -⟩
    · cases e
    · obtain ⟨rfl, rfl⟩ : w.heap.size = g ∧ l.length = cap := by simpa using e
      exact ⟨cur, h1, by simpa using h2⟩
  have HCUR := Lib.hid hcur
  have HCS := Lib.hid hcs
  have HCS2 := Lib.hid hcs2
  have HML := Lib.hid (show (l.map (Value.int .i64)).length = l.length by simp)
  clear hrow hgr hcur hcs hcs2 hi hz hs hb
  go_enter Tryz.func13, Tryz.ntmps13
  go_wp2_with (refine wpList_copy_splice (o := ⟨some 9, _, _, _, _, _⟩) rfl (.tmp 7) (.tmp 8) 33 33 rfl 3 Tryz.underlying33 size_int (some ⟨w.heap.size, 0, none⟩) A l.length l.length l.length c rfl rfl w.heap.size 0 cur.toList 3 (by simpa using HCUR.out) (l.map (Value.int .i64)) ?_ ?_ ?_ ?_ w.heap.size w hk1 (Nat.le_refl _) ?_)
  · rw [HML.out]; exact (Nat.min_self _).symm
  · intro hp
    obtain ⟨b, o, rfl, hc⟩ := HCS.out hp
    refine ⟨_, rfl, fun j x hx => ?_⟩
    have e : ((⟨b, o, none⟩ : Addr).add j) = ⟨b, o + j, none⟩ := by unfold Addr.add; split <;> simp_all
    rw [e]
    exact hk1.cell (hc j x hx)
  · rw [HML.out]; simp [HCS2.out]
  · intro u hu
    obtain ⟨x, -, rfl⟩ := List.mem_map.1 hu
    rfl
  · intro w2 hg2 hb2
    have HG2 := hg2
    clear hg2
    go_wp2
    go_ret
    refine ⟨_, rfl, ⟨by simp, .inr ⟨w.heap.size, l.length, _, rfl, Nat.le_refl _, HG2.out, Nat.le_refl _, by unfold maxLen; omega, ?_, ?_⟩⟩, hb2⟩
    · simp [splice, HCS2.out]
    · simp [splice, HCS2.out]
end Go.Proofs.YtngbgngfdklnlaaGreatDoor
set_option linter.unusedSimpArgs false
set_option linter.unusedVariables false
namespace Go.Proofs.YtngbgngfdklnlaaGreatDoor
open Go.RowKit
/-- Both disks, and they keep clear of the blocks of A. -/
def JKA (A : Nat → Prop) (w0 w : World) (d x : Value) (cap : Nat) (fs fr : Fls) : Prop := ∃ F G : Nat → Prop, Disk w d cap fs F ∧ Ref w x cap fr G ∧ (∀ g, F g → w0.heap.size ≤ g ∧ g < w.heap.size) ∧ (∀ g, G g → w0.heap.size ≤ g ∧ g < w.heap.size) ∧ (∀ g, F g → ¬ G g) ∧ Kept w0 w ∧ ∀ g, A g → ¬ F g ∧ ¬ G g ∧ g < w.heap.size ∧ w0.heap.size ≤ g
theorem JK.avoid {A : Nat → Prop} {w0 w w1 : World} {d x : Value} {cap : Nat} {fs fr : Fls} (h : JK w0 w d x cap fs fr) (k : Kept w w1) (hA : ∀ g, A g → w.heap.size ≤ g ∧ g < w1.heap.size) : JKA A w0 w1 d x cap fs fr := by
  obtain ⟨F, G, h1, h2, h3, h4, h5, h6⟩ := h
  have hs := k.size
  have hs0 := h6.size
  refine ⟨F, G, h1.kept k, h2.kept k, fun g x => ⟨(h3 g x).1, by have := (h3 g x).2; omega⟩, fun g x => ⟨(h4 g x).1, by have := (h4 g x).2; omega⟩, h5, h6.trans k, fun g hg => ⟨fun x => ?_, fun x => ?_, (hA g hg).2, by have := (hA g hg).1; omega⟩⟩
  · have := (h3 g x).2; have := (hA g hg).1; omega
  · have := (h4 g x).2; have := (hA g hg).1; omega
theorem JKA.kept {A : Nat → Prop} {w0 w w' : World} {d x : Value} {cap : Nat} {fs fr : Fls} (h : JKA A w0 w d x cap fs fr) (k : Kept w w') : JKA A w0 w' d x cap fs fr := by
  obtain ⟨F, G, h1, h2, h3, h4, h5, h6, h7⟩ := h
  have hs := k.size
  exact ⟨F, G, h1.kept k, h2.kept k, fun g x => ⟨(h3 g x).1, by have := (h3 g x).2; omega⟩, fun g x => ⟨(h4 g x).1, by have := (h4 g x).2; omega⟩, h5, h6.trans k, fun g hg => ⟨(h7 g hg).1, (h7 g hg).2.1, by have := (h7 g hg).2.2.1; omega, (h7 g hg).2.2.2⟩⟩
theorem JKA.onDisk {A : Nat → Prop} {w0 w : World} {d x : Value} {cap : Nat} {fs fr : Fls} (h : JKA A w0 w d x cap fs fr) : ∃ F : Nat → Prop, Disk w d cap fs F ∧ (∀ g, F g → w0.heap.size ≤ g ∧ g < w.heap.size ∧ ¬ A g) ∧ Kept w0 w ∧ ∀ w' fs', Disk w' d cap fs' (ext F w w') → Chg F w w' → JKA A w0 w' d x cap fs' fr := by
  obtain ⟨F, G, h1, h2, h3, h4, h5, h6, h7⟩ := h
  have hs0 := h6.size
  refine ⟨F, h1, fun g x => ⟨(h3 g x).1, (h3 g x).2, fun ha => (h7 g ha).1 x⟩, h6, fun w' fs' hd hc => ?_⟩
  have hs' := hc.size
  refine ⟨ext F w w', G, hd, h2.chg hc (fun g hg hf => h5 g hf hg), fun g x => ?_, fun g x => ⟨(h4 g x).1, by have := (h4 g x).2; omega⟩, fun g x hg => ?_, hc.kept h6 (fun g x => (h3 g x).1), fun g hg => ⟨fun x => ?_, (h7 g hg).2.1, by have := (h7 g hg).2.2.1; omega, (h7 g hg).2.2.2⟩⟩
  · rcases x with x | x
    · exact ⟨(h3 g x).1, by have := (h3 g x).2; omega⟩
    · exact ⟨by omega, x.2⟩
  · rcases x with x | x
    · exact h5 g x hg
    · have := (h4 g hg).2
      omega
  · rcases x with x | x
    · exact (h7 g hg).1 x
    · have := (h7 g hg).2.2.1
      omega
theorem JKA.onRef {A : Nat → Prop} {w0 w : World} {d x : Value} {cap : Nat} {fs fr : Fls} (h : JKA A w0 w d x cap fs fr) : ∃ G : Nat → Prop, Ref w x cap fr G ∧ (∀ g, G g → w0.heap.size ≤ g ∧ g < w.heap.size ∧ ¬ A g) ∧ Kept w0 w ∧ ∀ w' fr', Ref w' x cap fr' (ext G w w') → Chg G w w' → JKA A w0 w' d x cap fs fr' := by
  obtain ⟨F, G, h1, h2, h3, h4, h5, h6, h7⟩ := h
  have hs0 := h6.size
  refine ⟨G, h2, fun g x => ⟨(h4 g x).1, (h4 g x).2, fun ha => (h7 g ha).2.1 x⟩, h6, fun w' fr' hd hc => ?_⟩
  have hs' := hc.size
  refine ⟨F, ext G w w', h1.chg hc (fun g hf hg => h5 g hf hg), hd, fun g x => ⟨(h3 g x).1, by have := (h3 g x).2; omega⟩, fun g x => ?_, fun g hf x => ?_, hc.kept h6 (fun g x => (h4 g x).1), fun g hg => ⟨(h7 g hg).1, fun x => ?_, by have := (h7 g hg).2.2.1; omega, (h7 g hg).2.2.2⟩⟩
  · rcases x with x | x
    · exact ⟨(h4 g x).1, by have := (h4 g x).2; omega⟩
    · exact ⟨by omega, x.2⟩
  · rcases x with x | x
    · exact h5 g hf x
    · have := (h3 g hf).2
      omega
  · rcases x with x | x
    · exact (h7 g hg).2.1 x
    · have := (h7 g hg).2.2.1
      omega
/-- What happens to the blocks of A changes neither. -/
theorem JKA.chg {A : Nat → Prop} {w0 w w' : World} {d x : Value} {cap : Nat} {fs fr : Fls} (h : JKA A w0 w d x cap fs fr) (c : Chg A w w') : JKA A w0 w' d x cap fs fr := by
  obtain ⟨F, G, h1, h2, h3, h4, h5, h6, h7⟩ := h
  have hs := c.size
  exact ⟨F, G, h1.chg c (fun g hf ha => (h7 g ha).1 hf), h2.chg c (fun g hg ha => (h7 g ha).2.1 hg), fun g x => ⟨(h3 g x).1, by have := (h3 g x).2; omega⟩, fun g x => ⟨(h4 g x).1, by have := (h4 g x).2; omega⟩, h5, c.kept h6 (fun g ha => (h7 g ha).2.2.2), fun g hg => ⟨(h7 g hg).1, (h7 g hg).2.1, by have := (h7 g hg).2.2.1; omega, (h7 g hg).2.2.2⟩⟩
theorem JKA.jk {A : Nat → Prop} {w0 w : World} {d x : Value} {cap : Nat} {fs fr : Fls} (h : JKA A w0 w d x cap fs fr) : JK w0 w d x cap fs fr := by
  obtain ⟨F, G, h1, h2, h3, h4, h5, h6, h7⟩ := h
  exact ⟨F, G, h1, h2, h3, h4, h5, h6⟩
theorem JKA.old {A : Nat → Prop} {w0 w : World} {d x : Value} {cap : Nat} {fs fr : Fls} (h : JKA A w0 w d x cap fs fr) : Kept w0 w := h.jk.old
/-- Three disks: c, which was cloned, beside d and x. -/
def TK (w0 w : World) (c d x : Value) (cap : Nat) (fc fs fr : Fls) : Prop := ∃ E : Nat → Prop, Disk w c cap fc E ∧ JKA E w0 w d x cap fs fr
theorem TK.onOld {w0 w w1 : World} {c d x : Value} {cap : Nat} {fc fs fr : Fls} (h : TK w0 w c d x cap fc fs fr) (k : Kept w w1) : ∃ E : Nat → Prop, Disk w1 c cap fc E ∧ (∀ g, E g → w0.heap.size ≤ g ∧ g < w.heap.size) ∧ ∀ w' fc', Disk w' c cap fc' (ext E w1 w') → Chg E w1 w' → TK w0 w' c d x cap fc' fs fr := by
  obtain ⟨E, h1, h2⟩ := h
  have hb : ∀ g, E g → w0.heap.size ≤ g ∧ g < w.heap.size := by
    obtain ⟨F, G, -, -, -, -, -, -, h7⟩ := h2
    exact fun g hg => ⟨(h7 g hg).2.2.2, (h7 g hg).2.2.1⟩
  refine ⟨E, h1.kept k, hb, fun w' fc' hd hc => ⟨ext E w1 w', hd, ?_⟩⟩
  have h3 := (h2.kept k).chg hc
  obtain ⟨F, G, a1, a2, a3, a4, a5, a6, a7⟩ := h2
  have hs := k.size
  have hs' := hc.size
  have hs0 := a6.size
  refine ⟨F, G, (a1.kept k).chg hc (fun g hf he => (a7 g he).1 hf), (a2.kept k).chg hc (fun g hg he => (a7 g he).2.1 hg), fun g x => ⟨(a3 g x).1, by have := (a3 g x).2; omega⟩, fun g x => ⟨(a4 g x).1, by have := (a4 g x).2; omega⟩, a5, hc.kept (a6.trans k) (fun g he => (hb g he).1), fun g hg => ?_⟩
  rcases hg with hg | hg
  · exact ⟨(a7 g hg).1, (a7 g hg).2.1, by have := (a7 g hg).2.2.1; omega, (a7 g hg).2.2.2⟩
  · refine ⟨fun x => ?_, fun x => ?_, hg.2, by omega⟩
    · have := (a3 g x).2; omega
    · have := (a4 g x).2; omega
theorem TK.jk {w0 w : World} {c d x : Value} {cap : Nat} {fc fs fr : Fls} (h : TK w0 w c d x cap fc fs fr) : JK w0 w d x cap fs fr := by
  obtain ⟨E, h1, h2⟩ := h
  exact h2.jk
end Go.Proofs.YtngbgngfdklnlaaGreatDoor
set_option linter.unusedSimpArgs false
set_option linter.unusedVariables false
namespace Go.Proofs.YtngbgngfdklnlaaGreatDoor
open Go.RowKit
section
variable {A : Nat → Prop} {w0 w : World} {d x : Value} {cap : Nat} {fs fr : Fls}
theorem append_jka (k : Nm) (b : List UInt8) (vb : Value) (h : JKA A w0 w d x cap fs fr) (hb : Bts w vb b) (hn : fs.length < 2000000000000) :
    Calls Tryz.prog 15 #[d, .string ⟨k.toArray⟩, vb] w fun e w' => e = .returned (.int .i64 (okA cap k b fs)) ∧ JKA A w0 w' d x cap (if okA cap k b fs = 0 then appS k b fs else fs) fr ∧ Chg (fun g => ¬ A g) w w' := by
  obtain ⟨F, h1, h2, h3, h4⟩ := h.onDisk
  exact (append_any k b vb d cap fs F w h1 hb hn).mono fun _ w' ⟨a, b, c⟩ => ⟨a, h4 w' _ b c, c.mono (fun g _ x => (h2 g x).2.2)⟩
theorem rappend_jka (k : Nm) (b : List UInt8) (vb : Value) (h : JKA A w0 w d x cap fs fr) (hb : Bts w vb b) (hlim : b.length ≤ 140737488355328) (hn : fr.length < 2000000000000) :
    Calls Tryz.prog 16 #[x, .string ⟨k.toArray⟩, vb] w fun e w' => e = .returned (.int .i64 (okA cap k b fr)) ∧ JKA A w0 w' d x cap fs (if okA cap k b fr = 0 then appS k b fr else fr) ∧ Chg (fun g => ¬ A g) w w' := by
  obtain ⟨F, h1, h2, h3, h4⟩ := h.onRef
  exact (rappend_any k b vb x cap fr F w h1 hb hlim hn).mono fun _ w' ⟨a, b, c⟩ => ⟨a, h4 w' _ b c, c.mono (fun g _ x => (h2 g x).2.2)⟩
theorem sync_jka (ls : List Nm) (v : Value) (h : JKA A w0 w d x cap fs fr) (hv : Txts w0 v ls) :
    Calls Tryz.prog 90 #[d, v] w fun e w' => e = .returned (.int .i64 (allS ls fs)) ∧ JKA A w0 w' d x cap (if allS ls fs = 0 then syncS ls fs else fs) fr ∧ Chg (fun g => ¬ A g) w w' := by
  obtain ⟨F, h1, h2, h3, h4⟩ := h.onDisk
  exact (sync_any ls v d cap fs F w h1 (fun W c => hv.kept (c.kept h3 (fun g x => (h2 g x).1)))).mono fun _ w' ⟨a, b, c⟩ => ⟨a, h4 w' _ b c, c.mono (fun g _ x => (h2 g x).2.2)⟩
theorem rsync_jka (ls : List Nm) (v : Value) (h : JKA A w0 w d x cap fs fr) (hv : Txts w0 v ls) :
    Calls Tryz.prog 51 #[x, v] w fun e w' => e = .returned (.int .i64 (allS ls fr)) ∧ JKA A w0 w' d x cap fs (if allS ls fr = 0 then syncS ls fr else fr) ∧ Chg (fun g => ¬ A g) w w' := by
  obtain ⟨F, h1, h2, h3, h4⟩ := h.onRef
  exact (rsync_any ls v x cap fr F w h1 (fun W c => hv.kept (c.kept h3 (fun g x => (h2 g x).1)))).mono fun _ w' ⟨a, b, c⟩ => ⟨a, h4 w' _ b c, c.mono (fun g _ x => (h2 g x).2.2)⟩
theorem remove_jka (ls : List Nm) (v : Value) (h : JKA A w0 w d x cap fs fr) (hv : Txts w0 v ls) :
    Calls Tryz.prog 17 #[d, v] w fun e w' => e = .returned (.int .i64 (allS ls fs)) ∧ JKA A w0 w' d x cap (if allS ls fs = 0 then remS ls fs else fs) fr ∧ Chg (fun g => ¬ A g) w w' := by
  obtain ⟨F, h1, h2, h3, h4⟩ := h.onDisk
  exact (remove_any ls v d cap fs F w h1 (fun W c => hv.kept (c.kept h3 (fun g x => (h2 g x).1)))).mono fun _ w' ⟨a, b, c⟩ => ⟨a, h4 w' _ b c, c.mono (fun g _ x => (h2 g x).2.2)⟩
theorem rremove_jka (ls : List Nm) (v : Value) (h : JKA A w0 w d x cap fs fr) (hv : Txts w0 v ls) :
    Calls Tryz.prog 18 #[x, v] w fun e w' => e = .returned (.int .i64 (allS ls fr)) ∧ JKA A w0 w' d x cap fs (if allS ls fr = 0 then remS ls fr else fr) ∧ Chg (fun g => ¬ A g) w w' := by
  obtain ⟨F, h1, h2, h3, h4⟩ := h.onRef
  exact (rremove_any ls v x cap fr F w h1 (fun W c => hv.kept (c.kept h3 (fun g x => (h2 g x).1)))).mono fun _ w' ⟨a, b, c⟩ => ⟨a, h4 w' _ b c, c.mono (fun g _ x => (h2 g x).2.2)⟩
theorem rename_jka (a b : Nm) (h : JKA A w0 w d x cap fs fr) :
    Calls Tryz.prog 91 #[d, .string ⟨a.toArray⟩, .string ⟨b.toArray⟩] w fun e w' => e = .returned (.int .i64 (renE a b fs)) ∧ JKA A w0 w' d x cap (if renE a b fs = 0 then renS a b fs else fs) fr ∧ Chg (fun g => ¬ A g) w w' := by
  obtain ⟨F, h1, h2, h3, h4⟩ := h.onDisk
  exact (rename_any a b d cap fs F w h1).mono fun _ w' ⟨a, b, c⟩ => ⟨a, h4 w' _ b c, c.mono (fun g _ x => (h2 g x).2.2)⟩
theorem rrename_jka (a b : Nm) (h : JKA A w0 w d x cap fs fr) :
    Calls Tryz.prog 52 #[x, .string ⟨a.toArray⟩, .string ⟨b.toArray⟩] w fun e w' => e = .returned (.int .i64 (renE a b fr)) ∧ JKA A w0 w' d x cap fs (if renE a b fr = 0 then renS a b fr else fr) ∧ Chg (fun g => ¬ A g) w w' := by
  obtain ⟨F, h1, h2, h3, h4⟩ := h.onRef
  exact (rrename_any a b x cap fr F w h1).mono fun _ w' ⟨a, b, c⟩ => ⟨a, h4 w' _ b c, c.mono (fun g _ x => (h2 g x).2.2)⟩
theorem Ints.of_own {w : World} {base : Nat} {e : TypeId} {v : Value} {n : Nat} {l : List Int} (h : w.ownsRow base e 1 v n (l.map (Value.int .i64))) : Ints w v l := by
  have hn : l.length = n := by have := h.1; simpa using this
  rcases h.2 with ⟨rfl, h0⟩ | ⟨g, cap, cur, rfl, hB, hg, hc, hm, hs, ht⟩
  · obtain rfl : l = [] := List.eq_nil_of_length_eq_zero (by omega)
    exact ints_none w
  · subst hn
    refine ⟨_, cap, rfl, hc, hm, fun _ => ⟨g, 0, rfl, fun k x hx => ?_⟩⟩
    have := h.cells (g := g) rfl k (.int .i64 x) (by simp [hx])
    have e : ((⟨g, 0, none⟩ : Addr).add k) = ⟨g, 0 + k, none⟩ := by unfold Addr.add; split <;> simp_all
    rw [e] at this
    exact this
theorem crash_jka (cuts : List Int) (v : Value) (base n : Nat) (e : TypeId) (h : JKA A w0 w d x cap fs fr) (hv : w.ownsRow base e 1 v n (cuts.map (Value.int .i64))) (hA : ∀ g, v.ownBlock = some g → A g) :
    Calls Tryz.prog 12 #[d, v] w fun e w' => e = .returned (.tuple #[]) ∧ JKA A w0 w' d x cap (crashS cuts fs) fr ∧ Chg (fun g => ¬ A g) w w' := by
  obtain ⟨F, h1, h2, h3, h4⟩ := h.onDisk
  exact (crash_any cuts v d cap fs F w h1 (fun W c => Ints.of_own (own_chg hv c (fun g hg hf => (h2 g hf).2.2 (hA g hg))))).mono fun _ w' ⟨a, b, c⟩ => ⟨a, h4 w' _ b c, c.mono (fun g _ x => (h2 g x).2.2)⟩
theorem rcrash_jka (cuts : List Int) (v : Value) (h : JKA A w0 w d x cap fs fr) (hv : Ints w0 v cuts) :
    Calls Tryz.prog 14 #[x, v] w fun e w' => e = .returned (.tuple #[]) ∧ JKA A w0 w' d x cap fs (crashS cuts fr) ∧ Chg (fun g => ¬ A g) w w' := by
  obtain ⟨F, h1, h2, h3, h4⟩ := h.onRef
  exact (rcrash_any cuts v x cap fr F w h1 (fun W c => hv.kept (c.kept h3 (fun g x => (h2 g x).1)))).mono fun _ w' ⟨a, b, c⟩ => ⟨a, h4 w' _ b c, c.mono (fun g _ x => (h2 g x).2.2)⟩
end
/-- What becomes of the disk that was cloned is nobody's business. -/
theorem append_tk {w0 w w1 : World} {c d x : Value} {cap : Nat} {fc fs fr : Fls} (k : Nm) (b : List UInt8) (vb : Value) (h : TK w0 w c d x cap fc fs fr) (hk : Kept w w1) (hb : Bts w1 vb b) (hn : fc.length < 2000000000000) :
    Calls Tryz.prog 15 #[c, .string ⟨k.toArray⟩, vb] w1 fun e w' => e = .returned (.int .i64 (okA cap k b fc)) ∧ TK w0 w' c d x cap (if okA cap k b fc = 0 then appS k b fc else fc) fs fr := by
  obtain ⟨E, h1, h2, h3⟩ := h.onOld hk
  exact (append_any k b vb c cap fc E w1 h1 hb hn).mono fun _ w' ⟨a, b, c⟩ => ⟨a, h3 w' _ b c⟩
theorem crash_tk {w0 w : World} {c d x : Value} {cap : Nat} {fc fs fr : Fls} (h : TK w0 w c d x cap fc fs fr) :
    Calls Tryz.prog 12 #[c, .slice none 0 0] w fun e w' => e = .returned (.tuple #[]) ∧ TK w0 w' c d x cap (crashS [] fc) fs fr := by
  obtain ⟨E, h1, h2, h3⟩ := h.onOld (Kept.refl w)
  exact (crash_any [] (.slice none 0 0) c cap fc E w h1 (fun W _ => ints_none W)).mono fun _ w' ⟨a, b, c⟩ => ⟨a, h3 w' _ b c⟩
end Go.Proofs.YtngbgngfdklnlaaGreatDoor
