/- The calls on both disks, beside rows that they keep clear of. -/
import Derived.Test.YtmjlhgamhjfjlaaDPly
set_option linter.unusedSimpArgs false
set_option linter.unusedVariables false
namespace Go.Proofs.Ytmjlhgamhjfjlaa
open Go.RowKit
section
variable {A : Nat → Prop} {w0 w : World} {d x : Value} {cap : Nat} {fs fr : Fls}
theorem append_jka (k : Nm) (b : List UInt8) (vb : Value) (h : JKA A w0 w d x cap fs fr) (hb : Bts w vb b) (hn : fs.length < 2000000000000) :
    Calls Try.prog 11 #[d, .string ⟨k.toArray⟩, vb] w fun e w' => e = .returned (.int .i64 (okA cap k b fs)) ∧ JKA A w0 w' d x cap (if okA cap k b fs = 0 then appS k b fs else fs) fr ∧ Chg (fun g => ¬ A g) w w' := by
  obtain ⟨F, h1, h2, h3, h4⟩ := h.onDisk
  exact (append_any k b vb d cap fs F w h1 hb hn).mono fun _ w' ⟨a, b, c⟩ => ⟨a, h4 w' _ b c, c.mono (fun g _ x => (h2 g x).2.2)⟩
theorem rappend_jka (k : Nm) (b : List UInt8) (vb : Value) (h : JKA A w0 w d x cap fs fr) (hb : Bts w vb b) (hlim : b.length ≤ 140737488355328) (hn : fr.length < 2000000000000) :
    Calls Try.prog 12 #[x, .string ⟨k.toArray⟩, vb] w fun e w' => e = .returned (.int .i64 (okA cap k b fr)) ∧ JKA A w0 w' d x cap fs (if okA cap k b fr = 0 then appS k b fr else fr) ∧ Chg (fun g => ¬ A g) w w' := by
  obtain ⟨F, h1, h2, h3, h4⟩ := h.onRef
  exact (rappend_any k b vb x cap fr F w h1 hb hlim hn).mono fun _ w' ⟨a, b, c⟩ => ⟨a, h4 w' _ b c, c.mono (fun g _ x => (h2 g x).2.2)⟩
theorem sync_jka (ls : List Nm) (v : Value) (h : JKA A w0 w d x cap fs fr) (hv : Txts w0 v ls) :
    Calls Try.prog 13 #[d, v] w fun e w' => e = .returned (.int .i64 (allS ls fs)) ∧ JKA A w0 w' d x cap (if allS ls fs = 0 then syncS ls fs else fs) fr ∧ Chg (fun g => ¬ A g) w w' := by
  obtain ⟨F, h1, h2, h3, h4⟩ := h.onDisk
  exact (sync_any ls v d cap fs F w h1 (fun W c => hv.kept (c.kept h3 (fun g x => (h2 g x).1)))).mono fun _ w' ⟨a, b, c⟩ => ⟨a, h4 w' _ b c, c.mono (fun g _ x => (h2 g x).2.2)⟩
theorem rsync_jka (ls : List Nm) (v : Value) (h : JKA A w0 w d x cap fs fr) (hv : Txts w0 v ls) :
    Calls Try.prog 14 #[x, v] w fun e w' => e = .returned (.int .i64 (allS ls fr)) ∧ JKA A w0 w' d x cap fs (if allS ls fr = 0 then syncS ls fr else fr) ∧ Chg (fun g => ¬ A g) w w' := by
  obtain ⟨F, h1, h2, h3, h4⟩ := h.onRef
  exact (rsync_any ls v x cap fr F w h1 (fun W c => hv.kept (c.kept h3 (fun g x => (h2 g x).1)))).mono fun _ w' ⟨a, b, c⟩ => ⟨a, h4 w' _ b c, c.mono (fun g _ x => (h2 g x).2.2)⟩
theorem remove_jka (ls : List Nm) (v : Value) (h : JKA A w0 w d x cap fs fr) (hv : Txts w0 v ls) :
    Calls Try.prog 17 #[d, v] w fun e w' => e = .returned (.int .i64 (allS ls fs)) ∧ JKA A w0 w' d x cap (if allS ls fs = 0 then remS ls fs else fs) fr ∧ Chg (fun g => ¬ A g) w w' := by
  obtain ⟨F, h1, h2, h3, h4⟩ := h.onDisk
  exact (remove_any ls v d cap fs F w h1 (fun W c => hv.kept (c.kept h3 (fun g x => (h2 g x).1)))).mono fun _ w' ⟨a, b, c⟩ => ⟨a, h4 w' _ b c, c.mono (fun g _ x => (h2 g x).2.2)⟩
theorem rremove_jka (ls : List Nm) (v : Value) (h : JKA A w0 w d x cap fs fr) (hv : Txts w0 v ls) :
    Calls Try.prog 18 #[x, v] w fun e w' => e = .returned (.int .i64 (allS ls fr)) ∧ JKA A w0 w' d x cap fs (if allS ls fr = 0 then remS ls fr else fr) ∧ Chg (fun g => ¬ A g) w w' := by
  obtain ⟨F, h1, h2, h3, h4⟩ := h.onRef
  exact (rremove_any ls v x cap fr F w h1 (fun W c => hv.kept (c.kept h3 (fun g x => (h2 g x).1)))).mono fun _ w' ⟨a, b, c⟩ => ⟨a, h4 w' _ b c, c.mono (fun g _ x => (h2 g x).2.2)⟩
theorem rename_jka (a b : Nm) (h : JKA A w0 w d x cap fs fr) :
    Calls Try.prog 15 #[d, .string ⟨a.toArray⟩, .string ⟨b.toArray⟩] w fun e w' => e = .returned (.int .i64 (renE a b fs)) ∧ JKA A w0 w' d x cap (if renE a b fs = 0 then renS a b fs else fs) fr ∧ Chg (fun g => ¬ A g) w w' := by
  obtain ⟨F, h1, h2, h3, h4⟩ := h.onDisk
  exact (rename_any a b d cap fs F w h1).mono fun _ w' ⟨a, b, c⟩ => ⟨a, h4 w' _ b c, c.mono (fun g _ x => (h2 g x).2.2)⟩
theorem rrename_jka (a b : Nm) (h : JKA A w0 w d x cap fs fr) :
    Calls Try.prog 16 #[x, .string ⟨a.toArray⟩, .string ⟨b.toArray⟩] w fun e w' => e = .returned (.int .i64 (renE a b fr)) ∧ JKA A w0 w' d x cap fs (if renE a b fr = 0 then renS a b fr else fr) ∧ Chg (fun g => ¬ A g) w w' := by
  obtain ⟨F, h1, h2, h3, h4⟩ := h.onRef
  exact (rrename_any a b x cap fr F w h1).mono fun _ w' ⟨a, b, c⟩ => ⟨a, h4 w' _ b c, c.mono (fun g _ x => (h2 g x).2.2)⟩
theorem Ints.of_own {w : World} {base : Nat} {e : TypeId} {v : Value} {n : Nat} {l : List Int} (h : w.ownsRow base e 1 v n (l.map (Value.int .i64))) : Ints w v l := by
  have hn : l.length = n := by have := h.1; simpa using this
  rcases h.2 with ⟨rfl, h0⟩ | ⟨g, cap, cur, rfl, hB, hg, hc, hm, hs, ht⟩
  · obtain rfl : l = [] := List.eq_nil_of_length_eq_zero (by omega)
    exact ints_none w
  · subst hn
    refine ⟨_, cap, rfl, hc, hm, fun _ => ⟨g, 0, rfl, fun k x hx => ?_⟩⟩
    have := h.cells (g := g) rfl k (.int .i64 x) (by simp [hx])
    have e : ((⟨g, 0, none⟩ : Addr).add k) = ⟨g, 0 + k, none⟩ := by unfold Addr.add; split <;> simp_all
    rw [e] at this
    exact this
theorem crash_jka (cuts : List Int) (v : Value) (base n : Nat) (e : TypeId) (h : JKA A w0 w d x cap fs fr) (hv : w.ownsRow base e 1 v n (cuts.map (Value.int .i64))) (hA : ∀ g, v.ownBlock = some g → A g) :
    Calls Try.prog 19 #[d, v] w fun e w' => e = .returned (.tuple #[]) ∧ JKA A w0 w' d x cap (crashS cuts fs) fr ∧ Chg (fun g => ¬ A g) w w' := by
  obtain ⟨F, h1, h2, h3, h4⟩ := h.onDisk
  exact (crash_any cuts v d cap fs F w h1 (fun W c => Ints.of_own (own_chg hv c (fun g hg hf => (h2 g hf).2.2 (hA g hg))))).mono fun _ w' ⟨a, b, c⟩ => ⟨a, h4 w' _ b c, c.mono (fun g _ x => (h2 g x).2.2)⟩
theorem rcrash_jka (cuts : List Int) (v : Value) (h : JKA A w0 w d x cap fs fr) (hv : Ints w0 v cuts) :
    Calls Try.prog 21 #[x, v] w fun e w' => e = .returned (.tuple #[]) ∧ JKA A w0 w' d x cap fs (crashS cuts fr) ∧ Chg (fun g => ¬ A g) w w' := by
  obtain ⟨F, h1, h2, h3, h4⟩ := h.onRef
  exact (rcrash_any cuts v x cap fr F w h1 (fun W c => hv.kept (c.kept h3 (fun g x => (h2 g x).1)))).mono fun _ w' ⟨a, b, c⟩ => ⟨a, h4 w' _ b c, c.mono (fun g _ x => (h2 g x).2.2)⟩
end
/-- What becomes of the disk that was cloned is nobody's business. -/
theorem append_tk {w0 w w1 : World} {c d x : Value} {cap : Nat} {fc fs fr : Fls} (k : Nm) (b : List UInt8) (vb : Value) (h : TK w0 w c d x cap fc fs fr) (hk : Kept w w1) (hb : Bts w1 vb b) (hn : fc.length < 2000000000000) :
    Calls Try.prog 11 #[c, .string ⟨k.toArray⟩, vb] w1 fun e w' => e = .returned (.int .i64 (okA cap k b fc)) ∧ TK w0 w' c d x cap (if okA cap k b fc = 0 then appS k b fc else fc) fs fr := by
  obtain ⟨E, h1, h2, h3⟩ := h.onOld hk
  exact (append_any k b vb c cap fc E w1 h1 hb hn).mono fun _ w' ⟨a, b, c⟩ => ⟨a, h3 w' _ b c⟩
theorem crash_tk {w0 w : World} {c d x : Value} {cap : Nat} {fc fs fr : Fls} (h : TK w0 w c d x cap fc fs fr) :
    Calls Try.prog 19 #[c, .slice none 0 0] w fun e w' => e = .returned (.tuple #[]) ∧ TK w0 w' c d x cap (crashS [] fc) fs fr := by
  obtain ⟨E, h1, h2, h3⟩ := h.onOld (Kept.refl w)
  exact (crash_any [] (.slice none 0 0) c cap fc E w h1 (fun W _ => ints_none W)).mono fun _ w' ⟨a, b, c⟩ => ⟨a, h3 w' _ b c⟩
end Go.Proofs.Ytmjlhgamhjfjlaa
