/- The walk of read. The walks of take and counted. The walk of take behind the root; counted. -/
import Derived.Test.YtennlckfmgfjbaaGreatDoorQZDec
import Derived.Test.YtennlckfmgfjbaaGreatDoorQZEw
import Derived.Test.YtennlckfmgfjbaaGreatDoorGPLawSuf2
import Derived.Test.YtennlckfmgfjbaaGreatDoorGZNew3
import Derived.Deep.QuietTactic
import Derived.BigQuiet
set_option linter.unusedSimpArgs false
set_option linter.unusedVariables false
namespace Go.Proofs.YtennlckfmgfjbaaGreatDoor
open Go.RowKit
theorem rBlobZ (b : Nat) (s : List UInt8) (er : Int) (w : World) (h : IsR w b s er) (hlim : s.length ≤ 140737488355328) :
    Calls Tryz.prog 61 #[.pointer (some ⟨b, 0, none⟩)] w fun e w' => ∃ u, e = .returned u ∧ w'.ownsRow w.heap.size 5 1 u (rd s er).1.length (Lib.byteCells (rd s er).1) ∧ IsR w' b (rd s er).2.1 (rd s er).2.2 ∧ RFr b w w' := by
  have hl : (rd s er).1.length ≤ s.length := by
    unfold rd; split
    · simp only [List.length_take, List.length_drop]; omega
    · exact Nat.zero_le _
  go_enter Tryz.func61, Tryz.ntmps61
  go_wp2_with fail
  refine (rTake b s er _ h hlim).mono ?_
  rintro e w1 ⟨u, rfl, hu, hI, hF⟩
  go_wp2_with fail
  refine (clone_anyB _ u _ hu (by omega)).mono ?_
  rintro e w2 ⟨v', rfl, ho, hk⟩
  have HO := Lib.hid (own_base' ho hF.size)
  have HK := Lib.hid hk
  have HI := Lib.hid hI
  have HF := Lib.hid hF
  clear ho hk hI hF hu h
  go_wp2
  go_ret
  exact ⟨_, rfl, HO.out, HI.out.kept HK.out, HF.out.trans (RFr.of_kept HK.out)⟩
theorem rdS_len (x : List UInt8 × Int) : (rdS x).2.1.length ≤ x.1.length := by
  unfold rdS rd
  split
  · simp only [List.length_drop]; omega
  · exact Nat.le_refl _
theorem rnS_len (x : List UInt8 × Int) : (rnS x).2.1.length ≤ x.1.length := by
  unfold rnS
  simp only [List.length_drop]
  omega
theorem rnS_le (x : List UInt8 × Int) : (rnS x).1 ≤ 4611686018427387903 := (rn_le x.1 x.2).2
theorem rdRow_num (s : List UInt8) : (rdRow s).2.1.ver ≤ 4611686018427387903 ∧ (rdRow s).2.1.ctr ≤ 4611686018427387903 ∧ (rdRow s).2.1.own ≤ 4611686018427387903 ∧ (rdRow s).2.1.kids = 0 :=
  ⟨rnS_le _, rnS_le _, rnS_le _, rfl⟩
/-- A node that is read takes a byte at least. -/
theorem rdRow_less {s : List UInt8} (h : (rdRow s).2.2.2 = 0) : (rdRow s).2.2.1.length < s.length := by
  have herr : ∀ x : List UInt8 × Int, x.2 ≠ 0 → (rdS x).2.2 ≠ 0 := fun x hx => by
    unfold rdS rd
    have : rn x.1 x.2 = (0, 0, x.2) := by unfold rn; rw [if_neg hx]
    rw [this, if_pos (Nat.zero_le _)]
    exact hx
  have herrN : ∀ x : List UInt8 × Int, x.2 ≠ 0 → (rnS x).2.2 ≠ 0 := fun x hx => by
    unfold rnS rn
    rw [if_neg hx]
    exact hx
  have h0 : (rdS (s, 0)).2.2 = 0 := by
    apply Classical.byContradiction
    intro h1
    exact herrN _ (herrN _ (herrN _ (herr _ h1))) h
  have h1 : (rdS (s, 0)).2.1.length < s.length := by
    unfold rdS rd at h0 ⊢
    simp only at h0 ⊢
    split at h0
    · rename_i hle
      rw [if_pos hle]
      simp only at h0 ⊢
      rcases rn_cases s 0 with ⟨e, he, hne⟩ | ⟨-, n, c, he, hc, hp, hn⟩
      · rw [he] at h0; exact absurd h0 hne
      · rw [he] at hle ⊢
        simp only at hle ⊢
        have hc0 : 1 ≤ c := by
          rcases Nat.eq_zero_or_pos c with e | e
          · exfalso
            rw [e, List.take_zero] at hp
            unfold put at hp
            rw [show (9 : Nat) = 8 + 1 from rfl] at hp
            unfold putF at hp
            split at hp <;> simp at hp
          · exact e
        rw [List.length_drop]
        omega
    · cases h0
  have h2 : (rdRow s).2.2.1.length ≤ (rdS (s, 0)).2.1.length := by
    unfold rdRow
    exact Nat.le_trans (rnS_len _) (Nat.le_trans (rnS_len _) (Nat.le_trans (rnS_len _) (rdS_len _)))
  omega
theorem IsR.poke {w : World} {b nb i : Nat} {s : List UInt8} {er : Int} {x : Value} (h : IsR w b s er) (hne : b ≠ nb) (h8 : ∀ o y, w.cell? ⟨nb, o, none⟩ ≠ some (.int .u8 y)) : IsR (w.setCell ⟨nb, i, none⟩ x) b s er := by
  obtain ⟨v, hb, hv⟩ := h
  exact ⟨v, (Below.heap_setCell w ⟨nb, i, none⟩ x b hne).trans hb, hv.set h8⟩
theorem node_not8 {w : World} {nb : Nat} {a b c d : Int} {A : Option Addr} {n k : Nat} {t : TypeId} (h : w.heap[nb]? = some (.cells #[.int .i64 a, .int .i64 b, .int .i64 c, .int .i64 d, .slice A n k] t (0, 0))) (o : Nat) (y : Int) : w.cell? ⟨nb, o, none⟩ ≠ some (.int .u8 y) := by
  rw [cell_at h]
  match o with
  | 0 => simp
  | 1 => simp
  | 2 => simp
  | 3 => simp
  | 4 => simp
  | o + 5 => simp
theorem RFr.poke {b nb i : Nat} {w w' : World} {x : Value} (h : RFr b w w') (hn : w.heap.size ≤ nb) : RFr b w (w'.setCell ⟨nb, i, none⟩ x) :=
  ⟨h.os, h.tape, h.output, by simpa [World.setCell] using h.size, fun k hk hb => (Below.heap_setCell w' ⟨nb, i, none⟩ x k (by show k ≠ nb; omega)).trans (h.block k hk hb)⟩
theorem RFr.block' {b : Nat} {w w' : World} (h : RFr b w w') {k : Nat} {o : Obj} (hb : w.heap[k]? = some o) (hne : k ≠ b) : w'.heap[k]? = some o := (h.block k (Array.getElem?_eq_some_iff.1 hb).1 hne).trans hb
theorem RFr.chg {b : Nat} {w w' : World} (h : RFr b w w') : Chg (fun g => g = b) w w' := ⟨h.os, h.tape, h.output, h.size, fun k hk hb => h.block k hk hb⟩
def ReadTo (b : Nat) (s : List UInt8) (w : World) (e : Ending) (w' : World) : Prop :=
  ∃ nb dv, e = .returned (.tuple #[.string ⟨(rdRow s).1.toArray⟩, ptrZ nb]) ∧ w.heap.size ≤ nb ∧ NodeAt w' ⟨nb, dv, (rdRow s).2.1⟩ ∧ (∀ g, dv.ownBlock = some g → w.heap.size ≤ g) ∧ IsR w' b (rdRow s).2.2.1 (rdRow s).2.2.2 ∧ RFr b w w'
set_option maxRecDepth 100000 in
set_option maxHeartbeats 2000000 in
theorem read_any (b : Nat) (s : List UInt8) (w : World) (h : IsR w b s 0) (hlim : s.length ≤ 140737488355328) :
    Calls Tryz.prog 32 #[.pointer (some ⟨b, 0, none⟩)] w (ReadTo b s w) := by
  have H1 := Lib.hid (rText b s 0 w h hlim)
  have hlt := h.lt
  unfold ReadTo
  have l1 := rdS_len (s, 0)
  obtain ⟨p, s1, e1, ha⟩ : ∃ q r i, rdS (s, 0) = (q, r, i) := ⟨(rdS (s, 0)).1, (rdS (s, 0)).2.1, (rdS (s, 0)).2.2, rfl⟩
  have l2 := rdS_len (s1, e1)
  obtain ⟨x, s2, e2, hb⟩ : ∃ q r i, rdS (s1, e1) = (q, r, i) := ⟨(rdS (s1, e1)).1, (rdS (s1, e1)).2.1, (rdS (s1, e1)).2.2, rfl⟩
  have l3 := rnS_len (s2, e2)
  obtain ⟨n3, s3, e3, hc⟩ : ∃ q r i, rnS (s2, e2) = (q, r, i) := ⟨(rnS (s2, e2)).1, (rnS (s2, e2)).2.1, (rnS (s2, e2)).2.2, rfl⟩
  have l4 := rnS_len (s3, e3)
  obtain ⟨n4, s4, e4, hd⟩ : ∃ q r i, rnS (s3, e3) = (q, r, i) := ⟨(rnS (s3, e3)).1, (rnS (s3, e3)).2.1, (rnS (s3, e3)).2.2, rfl⟩
  have l5 := rnS_len (s4, e4)
  obtain ⟨n5, s5, e5, he⟩ : ∃ q r i, rnS (s4, e4) = (q, r, i) := ⟨(rnS (s4, e4)).1, (rnS (s4, e4)).2.1, (rnS (s4, e4)).2.2, rfl⟩
  have HROW := Lib.hid (show rdRow s = (p, ⟨x, n3, n4, n5, 0⟩, s5, e5) by
    unfold rdRow
    simp only [ha, hb, hc, hd, he])
  rw [ha] at l1
  rw [hb] at l2
  rw [hc] at l3
  rw [hd] at l4
  rw [he] at l5
  simp only at l1 l2 l3 l4 l5
  have ha' : rd s 0 = (p, s1, e1) := ha
  have hb' : rd s1 e1 = (x, s2, e2) := hb
  have hc' : (rn s2 e2).1 = n3 ∧ s2.drop (rn s2 e2).2.1 = s3 ∧ (rn s2 e2).2.2 = e3 := by
    unfold rnS at hc
    simpa using hc
  have hd' : (rn s3 e3).1 = n4 ∧ s3.drop (rn s3 e3).2.1 = s4 ∧ (rn s3 e3).2.2 = e4 := by
    unfold rnS at hd
    simpa using hd
  have he' : (rn s4 e4).1 = n5 ∧ s4.drop (rn s4 e4).2.1 = s5 ∧ (rn s4 e4).2.2 = e5 := by
    unfold rnS at he
    simpa using he
  have HA := Lib.hid ha'
  have HB := Lib.hid hb'
  have HC := Lib.hid hc'
  have HD := Lib.hid hd'
  have HE := Lib.hid he'
  rw [ha'] at H1
  clear ha hb hc hd he ha' hb' hc' hd' he' h
  go_enter Tryz.func32, Tryz.ntmps32
  go_wp2_with fail
  refine H1.out.mono ?_
  rintro e w1 ⟨rfl, hI1, hF1⟩
  have H2 := Lib.hid (rBlobZ b s1 e1 w1 hI1 (by omega))
  rw [HB.out] at H2
  have HF1 := Lib.hid hF1
  have hs1 := hF1.size
  clear hI1 hF1
  go_wp2_with fail
  refine H2.out.mono ?_
  rintro e w2 ⟨dv, rfl, ho2, hI2, hF2⟩
  obtain ⟨Ad, cd, rfl⟩ := own_form ho2
  have hs2 := hF2.size
  have hk3 := (Kept.refl w2).alloc (.cells #[.int .i64 0, .int .i64 0, .int .i64 0, .int .i64 0, .slice Ad x.length cd] 87)
  have HK3 := Lib.hid hk3
  have hna := heap_alloc_new w2 (.cells #[.int .i64 0, .int .i64 0, .int .i64 0, .int .i64 0, .slice Ad x.length cd] 87)
  have HNA := Lib.hid hna
  have H3 := Lib.hid (rNum b s2 e2 _ (hI2.kept hk3) (by omega))
  rw [HC.out.1, HC.out.2.1, HC.out.2.2] at H3
  have HO2 := Lib.hid ho2
  have HF2 := Lib.hid hF2
  clear ho2 hI2 hF2 hk3 hna
  go_wp2_with fail
  refine H3.out.mono ?_
  rintro e w4 ⟨rfl, hI4, hF4⟩
  have H4 := Lib.hid (rNum b s3 e3 _ hI4 (by omega))
  rw [HD.out.1, HD.out.2.1, HD.out.2.2] at H4
  have HF4 := Lib.hid hF4
  clear hI4 hF4
  go_wp2_with fail
  refine H4.out.mono ?_
  rintro e w5 ⟨rfl, hI5, hF5⟩
  have H5 := Lib.hid (rNum b s4 e4 _ hI5 (by omega))
  rw [HE.out.1, HE.out.2.1, HE.out.2.2] at H5
  have HF5 := Lib.hid hF5
  clear hI5 hF5
  go_wp2_with fail
  refine H5.out.mono ?_
  rintro e w6 ⟨rfl, hI6, hF6⟩
  have hne : w2.heap.size ≠ b := by omega
  have hFa := HF4.out.trans (HF5.out.trans hF6)
  have hb6 := hFa.block' HNA.out hne
  have hFb := (HF1.out.trans HF2.out).trans ((RFr.of_kept HK3.out).trans hFa)
  have c0 := cell_at hb6 0
  have c1 := cell_at hb6 1
  have c2 := cell_at hb6 2
  simp only [List.getElem?_toArray, List.getElem?_cons_zero, List.getElem?_cons_succ] at c0 c1 c2
  have f0 : w6.frozen? ⟨w2.heap.size, 0, none⟩ = false := frozen_at hb6 0
  have f1 : w6.frozen? ⟨w2.heap.size, 1, none⟩ = false := frozen_at hb6 1
  have f2 : w6.frozen? ⟨w2.heap.size, 2, none⟩ = false := frozen_at hb6 2
  have HB6 := Lib.hid hb6
  have HI6 := Lib.hid hI6
  have HFA := Lib.hid hFa
  have HFB := Lib.hid hFb
  clear hb6 hI6 hF6 hFa hFb
  go_wp2
  go_ret2
  rw [HROW.out]
  have h1 := Lib.heap_setCell_same (i := 0) HB6.out (.int .i64 (n3 : Int))
  have h2 := Lib.heap_setCell_same (i := 1) h1 (.int .i64 (n4 : Int))
  have h3 := Lib.heap_setCell_same (i := 2) h2 (.int .i64 (n5 : Int))
  have hcs : Chg (fun g => g = w2.heap.size) w6 (((w6.setCell ⟨w2.heap.size, 0, none⟩ (.int .i64 (n3 : Int))).setCell ⟨w2.heap.size, 1, none⟩ (.int .i64 (n4 : Int))).setCell ⟨w2.heap.size, 2, none⟩ (.int .i64 (n5 : Int))) := (((Chg.refl (fun g => g = w2.heap.size) w6).setCell _ (fun _ => rfl)).setCell _ (fun _ => rfl)).setCell _ (fun _ => rfl)
  simp only [Array.setIfInBounds, List.size_toArray, List.length_cons, List.length_nil] at h1 h2 h3
  simp at h1 h2 h3
  refine ⟨w2.heap.size, .slice Ad x.length cd, rfl, by omega, ⟨by simpa using h3, ?_⟩, fun g hg => ?_, ?_, ((HFB.out.poke (by omega)).poke (by omega)).poke (by omega)⟩
  · refine own_base' (own_chg (own_chg (own_kept HO2.out HK3.out) HFA.out.chg (fun g hg e => ?_)) hcs (fun g hg e => ?_)) (Nat.zero_le _)
    · have := (HO2.out.lt g hg).1
      omega
    · have := (HO2.out.lt g hg).2
      omega
  · have := (HO2.out.lt g hg).1
    omega
  · refine ((HI6.out.poke (by omega) (node_not8 HB6.out)).poke (by omega) (node_not8 h1)).poke (by omega) (node_not8 h2)
end Go.Proofs.YtennlckfmgfjbaaGreatDoor
set_option linter.unusedSimpArgs false
set_option linter.unusedVariables false
namespace Go.Proofs.YtennlckfmgfjbaaGreatDoor
open Go.RowKit
section
variable {w w' : World} {tb mb : Nat} {st : ZSt} {lim : Nat} {F G : Nat → Prop}
/-- A new node, which was there already in memory. -/
theorem TreeAt.put2 (h : TreeAt w tb mb st lim F) {k : Pth} {e : ZE} (hg : getZ k st = none) (ho : OwnsZ w' mb (putZ k e st)) (c : Chg (fun g => g = mb) w w') (hN : NodeAt w' e) (hnF : ¬ F e.nb) (hgood : GoodN (lim + 1) k e.nd) (hFG : ∀ g, F g → G g) (hGn : G e.nb) (hGd : ∀ g, e.dv.ownBlock = some g → G g) : TreeAt w' tb mb (putZ k e st) (lim + 1) G := by
  have hcut : cutZ k st = st := cut_noneZ hg
  have hl := length_putZ k e st
  refine ⟨c.block' h.cells (fun x => h.tb_mb x), ho, srt_putZ h.srt, fun p hp => ?_, ?_, by have := h.few; omega, fun p hp => ?_, hFG _ h.inT, hFG _ h.inM, fun p hp => ?_, fun p hp g hg => ?_⟩
  · rcases mem_putZ hp with rfl | ⟨hp, -⟩
    · exact hN
    · exact (h.nodes p hp).chg c (h.nb_ne hp) (fun g hg => h.dv_mb hp hg)
  · refine ((put_permZ k e st).pairwise_iff (fun h => Ne.symm h)).2 (List.pairwise_cons.2 ⟨fun p hp => ?_, ?_⟩)
    · exact fun x => hnF (by rw [show e.nb = p.2.nb from x]; exact h.inN p (mem_cutZ hp).1)
    · rw [hcut]; exact h.inj
  · rcases mem_putZ hp with rfl | ⟨hp, -⟩
    · exact hgood
    · exact (h.good p hp).more (by omega)
  · rcases mem_putZ hp with rfl | ⟨hp, -⟩
    · exact hGn
    · exact hFG _ (h.inN p hp)
  · rcases mem_putZ hp with rfl | ⟨hp, -⟩
    · exact hGd g hg
    · exact hFG _ (h.inD p hp g hg)
set_option maxRecDepth 100000 in
set_option maxHeartbeats 1000000 in
theorem zsize_any (h : TreeAt w tb mb st lim F) :
    Calls Tryz.prog 35 #[.pointer (some ⟨tb, 0, none⟩)] w fun e w' => e = .returned (.int .i64 (st.length : Int)) ∧ w = w' := by
  have c0 := h.c0
  have hlen := World.ownsMap.len h.owns Tryz.underlying81 3
  rw [toDZ_size] at hlen
  clear h
  go_enter Tryz.func35, Tryz.ntmps35
  go_wp2
  go_ret
  exact ⟨rfl, rfl⟩
end
/-- No byte lies in the block. -/
def No8 (w : World) (g : Nat) : Prop := ∀ o y, w.cell? ⟨g, o, none⟩ ≠ some (.int .u8 y)
theorem no8_map {w : World} {mb : Nat} {st : ZSt} (h : OwnsZ w mb st) : No8 w mb := fun o y => by
  obtain ⟨es, clock, hb, -⟩ := h
  simp [World.cell?, hb]
theorem no8_node {w : World} {e : ZE} (h : NodeAt w e) : No8 w e.nb := fun o y => by
  obtain ⟨A, c, hv⟩ := own_form h.2
  have h1 := h.1
  rw [hv] at h1
  exact node_not8 h1 o y
theorem Bts.chg8 {w w' : World} {G : Nat → Prop} {v : Value} {l : List UInt8} (h : Bts w v l) (c : Chg G w w') (h8 : ∀ g, G g → No8 w g) : Bts w' v l := by
  obtain ⟨A, k, rfl, h1, h2, h3⟩ := h
  refine ⟨A, k, rfl, h1, h2, fun hl => ?_⟩
  obtain ⟨b, o, rfl, hc⟩ := h3 hl
  exact ⟨b, o, rfl, fun i x hx => chg_cellS c (hc i x hx) (fun y => h8 b y _ _ (hc i x hx))⟩
theorem IsR.chg8 {w w' : World} {G : Nat → Prop} {b : Nat} {s : List UInt8} {er : Int} (h : IsR w b s er) (c : Chg G w w') (hb : ¬ G b) (h8 : ∀ g, G g → No8 w g) : IsR w' b s er := by
  obtain ⟨v, h1, h2⟩ := h
  exact ⟨v, c.block' h1 hb, h2.chg8 c h8⟩
def grewF (F : Nat → Prop) (nb : Nat) (dv : Value) (w w' : World) : Nat → Prop := fun g => F g ∨ g = nb ∨ dv.ownBlock = some g ∨ (w.heap.size ≤ g ∧ g < w'.heap.size)
def TakeTo (tb mb : Nat) (st : ZSt) (lim : Nat) (F : Nat → Prop) (p : Pth) (nb : Nat) (dv : Value) (n : ZN) (w : World) (e : Ending) (w' : World) : Prop :=
  match takeZ (plainZ st) p n with
  | none => e = .returned (.bool false) ∧ Chg (fun g => F g ∧ No8 w g) w w'
  | some t' => e = .returned (.bool true) ∧ (∃ st', TreeAt w' tb mb st' (lim + 1) (grewF F nb dv w w') ∧ plainZ st' = t') ∧ Chg (fun g => F g ∧ No8 w g) w w'
section
variable {w : World} {tb mb : Nat} {st : ZSt} {lim : Nat} {F : Nat → Prop}
set_option maxRecDepth 100000 in
set_option maxHeartbeats 2000000 in
theorem take_root (h : TreeAt w tb mb [] lim F) (p : Pth) (nb : Nat) (dv : Value) (n : ZN) (hN : NodeAt w ⟨nb, dv, n⟩) (hnF : ¬ F nb) (hpl : p.length ≤ 140737488355328)
    (hv : n.ver ≤ 4611686018427387903) (hc : n.ctr ≤ 4611686018427387903) (ho : n.own ≤ 4611686018427387903) (hk : n.kids = 0) :
    Calls Tryz.prog 34 #[.pointer (some ⟨tb, 0, none⟩), .string ⟨p.toArray⟩, ptrZ nb] w (TakeTo tb mb [] lim F p nb dv n w) := by
  obtain ⟨Ad, cd, rfl⟩ : ∃ A c, dv = .slice A n.data.length c := own_form hN.2
  have HSZ := Lib.hid (zsize_any h)
  have c0 := h.c0
  obtain ⟨w5, hrun, ho5, hg5⟩ := h.owns.store (by simp [maxLen]) p (by unfold maxLen; omega) ⟨nb, .slice Ad n.data.length cd, n⟩
  have hmb : nb ≠ mb := fun e => hnF (by rw [e]; exact h.inM)
  have hC5 : Chg (fun g => g = mb) w w5 := Chg.of_grown hg5 (fun g hg _ => by cases hg; rfl)
  have hdm : ∀ g, (Value.slice Ad n.data.length cd).ownBlock = some g → g ≠ mb := fun g hg e => by
    obtain ⟨cur, h1⟩ := own_type hN.2 hg
    obtain ⟨es, clock, hb, -⟩ := h.owns
    rw [e, hb] at h1
    cases h1
  have hN5 := hN.chg hC5 hmb hdm
  have hCF : Chg (fun g => F g ∧ No8 w g) w w5 := hC5.mono (fun g _ x => by rw [x]; exact ⟨h.inM, no8_map h.owns⟩)
  have HT := Lib.hid (show p = [47] → n.data = [] → ∃ st', TreeAt w5 tb mb st' (lim + 1) (grewF F nb (.slice Ad n.data.length cd) w w5) ∧ plainZ st' = [(p, n)] from fun hp hd => by
    refine ⟨putZ p ⟨nb, .slice Ad n.data.length cd, n⟩ [], h.put2 rfl ho5 hC5 hN5 hnF ⟨by rw [hp]; decide, by rw [hd]; exact Nat.zero_le _, by show n.ver ≤ _; omega, hc, ho, by show -((lim + 1 : Nat) : Int) ≤ n.kids; omega, by show n.kids ≤ ((lim + 1 : Nat) : Int); omega⟩ (fun g x => .inl x) (.inr (.inl rfl)) (fun g x => .inr (.inr (.inl x))), rfl⟩)
  have HCF := Lib.hid hCF
  obtain ⟨hb5, hd5⟩ := hN5
  simp only at hb5 hd5
  have d0 := cell_at hb5 0
  have d2 := cell_at hb5 2
  have d4 := cell_at hb5 4
  simp only [List.getElem?_toArray, List.getElem?_cons_zero, List.getElem?_cons_succ] at d0 d2 d4
  unfold ptrZ at hrun ⊢
  simp only at hrun
  have hdl : n.data.length = 0 ↔ n.data = [] := List.length_eq_zero_iff
  have HDL := Lib.hid hdl
  have HP := Lib.hid (show ∀ x : Bool, (decide (p = [47] ∧ n.data.length = 0 ∧ n.ver = 0 ∧ n.own = 0)) = x → (if x then (∃ st', TreeAt w5 tb mb st' (lim + 1) (grewF F nb (.slice Ad n.data.length cd) w w5) ∧ plainZ st' = [(p, n)]) else True) ∧ takeZ (plainZ []) p n = if x then some [(p, n)] else none from fun x hx => by
    have e : takeZ (plainZ []) p n = if p = [47] ∧ n.data = [] ∧ n.ver = 0 ∧ n.own = 0 then some [(p, n)] else none := rfl
    rw [e]
    cases x with
    | true =>
      have h1 := of_decide_eq_true hx
      rw [if_pos (show p = [47] ∧ n.data = [] ∧ n.ver = 0 ∧ n.own = 0 from ⟨h1.1, hdl.1 h1.2.1, h1.2.2⟩)]
      exact ⟨HT.out h1.1 (hdl.1 h1.2.1), rfl⟩
    | false =>
      have h1 := of_decide_eq_false hx
      rw [if_neg (show ¬ (p = [47] ∧ n.data = [] ∧ n.ver = 0 ∧ n.own = 0) from fun h2 => h1 ⟨h2.1, hdl.2 h2.2.1, h2.2.2⟩)]
      exact ⟨trivial, rfl⟩)
  have HFIN := Lib.hid (show ∀ x : Bool, (decide (p = [47] ∧ n.data.length = 0 ∧ n.ver = 0 ∧ n.own = 0)) = x → TakeTo tb mb [] lim F p nb (.slice Ad n.data.length cd) n w (.returned (.bool x)) w5 from fun x hx => by
    obtain ⟨h1, h2⟩ := HP.out x hx
    unfold TakeTo
    rw [h2]
    cases x with
    | true => exact (show _ ∧ _ ∧ _ from ⟨rfl, h1, HCF.out⟩)
    | false => exact (show _ ∧ _ from ⟨rfl, HCF.out⟩))
  generalize TakeTo tb mb [] lim F p nb (.slice Ad n.data.length cd) n w = Q at *
  clear h hN ho5 hg5 hC5 hdm hCF hb5 hd5 HT HP hdl
  by_cases e1 : p = [47]
  · subst e1
    by_cases e2 : n.data.length = 0
    · have t2 : ((n.data.length : Int) == 0) = true := by rw [e2]; rfl
      by_cases e3 : n.ver = 0
      · have t3 : ((n.ver : Int) == 0) = true := by simp; omega
        by_cases e4 : n.own = 0
        · have t4 : ((n.own : Int) == 0) = true := by simp; omega
          have HG := Lib.hid (HFIN.out true (by simp [e2, e3, e4]))
          clear e2 e3 e4
          go_enter Tryz.func34, Tryz.ntmps34
          go_wp2_with fail
          refine HSZ.out.mono ?_
          rintro e w1 ⟨rfl, rfl⟩
          go_wp2
          exact HG.out
        · have t4 : ((n.own : Int) == 0) = false := by rw [beq_eq_false_iff_ne]; omega
          have HG := Lib.hid (HFIN.out false (by simp [e2, e3, e4]))
          clear e2 e3
          go_enter Tryz.func34, Tryz.ntmps34
          go_wp2_with fail
          refine HSZ.out.mono ?_
          rintro e w1 ⟨rfl, rfl⟩
          go_wp2
          exact HG.out
      · have t3 : ((n.ver : Int) == 0) = false := by rw [beq_eq_false_iff_ne]; omega
        have HG := Lib.hid (HFIN.out false (by simp [e2, e3]))
        clear e2
        go_enter Tryz.func34, Tryz.ntmps34
        go_wp2_with fail
        refine HSZ.out.mono ?_
        rintro e w1 ⟨rfl, rfl⟩
        go_wp2
        exact HG.out
    · have t2 : ((n.data.length : Int) == 0) = false := by rw [beq_eq_false_iff_ne]; omega
      have HG := Lib.hid (HFIN.out false (by simp only [decide_eq_false_iff_not]; exact fun x => e2 x.2.1))
      go_enter Tryz.func34, Tryz.ntmps34
      go_wp2_with fail
      refine HSZ.out.mono ?_
      rintro e w1 ⟨rfl, rfl⟩
      go_wp2
      exact HG.out
  · have t0 : (p == [47]) = false := by simpa using e1
    have HG := Lib.hid (HFIN.out false (by simp [e1]))
    go_enter Tryz.func34, Tryz.ntmps34
    go_wp2_with fail
    refine HSZ.out.mono ?_
    rintro e w1 ⟨rfl, rfl⟩
    go_wp2
    exact HG.out
end
end Go.Proofs.YtennlckfmgfjbaaGreatDoor
set_option linter.unusedSimpArgs false
set_option linter.unusedVariables false
namespace Go.Proofs.YtennlckfmgfjbaaGreatDoor
open Go.RowKit
def moreZ (t : ZT) (p : Pth) (n : ZN) : Option ZT :=
  match parentOf p with
  | none => none
  | some up =>
    match getZ up t with
    | none => none
    | some m => if m.own ≠ 0 ∨ 256 < n.data.length ∨ (n.own ≠ 0 ∧ n.ctr ≠ 0) then none else some (onZ up (fun m => { m with kids := m.kids + 1 }) (putZ p n t))
theorem takeZ_more {t : ZT} (h : t ≠ []) (p : Pth) (n : ZN) : takeZ t p n = moreZ t p n := by
  cases t with
  | nil => exact absurd rfl h
  | cons y r => rfl
section
variable {w : World} {tb mb : Nat} {st : ZSt} {lim : Nat} {F : Nat → Prop}
set_option maxRecDepth 100000 in
set_option maxHeartbeats 4000000 in
theorem take_more (h : TreeAt w tb mb st lim F) (hne : st ≠ []) (p : Pth) (nb : Nat) (dv : Value) (n : ZN) (hN : NodeAt w ⟨nb, dv, n⟩) (hnF : ¬ F nb) (hfr : getZ p st = none) (hpl : p.length ≤ 140737488355328)
    (hv : n.ver ≤ 4611686018427387903) (hc : n.ctr ≤ 4611686018427387903) (ho : n.own ≤ 4611686018427387903) (hk : n.kids = 0) (hlim : lim + 2 < 4611686018427387903) :
    Calls Tryz.prog 34 #[.pointer (some ⟨tb, 0, none⟩), .string ⟨p.toArray⟩, ptrZ nb] w (TakeTo tb mb st lim F p nb dv n w) := by
  obtain ⟨Ad, cd, rfl⟩ : ∃ A c, dv = .slice A n.data.length c := own_form hN.2
  have HSZ := Lib.hid (zsize_any h)
  have hz : ((st.length : Int) == 0) = false := by
    rw [beq_eq_false_iff_ne]
    have := List.length_pos_iff.2 hne
    omega
  have htz : takeZ (plainZ st) p n = moreZ (plainZ st) p n := takeZ_more (by
    cases st with
    | nil => exact absurd rfl hne
    | cons y r => simp [plainZ, mapZ]) p n
  have HNO := Lib.hid (show moreZ (plainZ st) p n = none → ∀ W, Kept w W → TakeTo tb mb st lim F p nb (.slice Ad n.data.length cd) n w (.returned (.bool false)) W from fun hx W kW => by
    unfold TakeTo
    rw [htz, hx]
    exact (show _ ∧ _ from ⟨rfl, Chg.of_kept kW⟩))
  have H := Lib.hid h
  have HN := Lib.hid hN
  cases hp : parentOf p with
  | none =>
    have HG := Lib.hid (HNO.out (by unfold moreZ; rw [hp]))
    have HAB := Lib.hid (above_bad h p hp)
    generalize TakeTo tb mb st lim F p nb (.slice Ad n.data.length cd) n w = Q at *
    clear h hN hp htz
    go_enter Tryz.func34, Tryz.ntmps34
    go_wp2_with fail
    refine HSZ.out.mono ?_
    rintro e w1 ⟨rfl, rfl⟩
    go_wp2_with fail
    refine HAB.out.mono ?_
    rintro e w1 ⟨rfl, hk1⟩
    go_wp2
    exact HG.out _ hk1
  | some up =>
    have hup := (parent_names hp).2
    cases hgt : getZ up st with
    | none =>
      have hpg : getZ up (plainZ st) = none := by unfold plainZ; rw [getZ_mapZ, hgt]; rfl
      have HG := Lib.hid (HNO.out (by unfold moreZ; rw [hp]; simp only; rw [hpg]))
      obtain ⟨f1, f2⟩ := findE_no (st := st) hup hgt
      have hab := above_any h p up hp
      rw [f1, f2] at hab
      have HAB := Lib.hid hab
      generalize TakeTo tb mb st lim F p nb (.slice Ad n.data.length cd) n w = Q at *
      clear h hN hp htz hgt hpg f1 f2 hab
      go_enter Tryz.func34, Tryz.ntmps34
      go_wp2_with fail
      refine HSZ.out.mono ?_
      rintro e w1 ⟨rfl, rfl⟩
      go_wp2_with fail
      refine HAB.out.mono ?_
      rintro e w1 ⟨rfl, hk1⟩
      go_wp2
      exact HG.out _ hk1
    | some e =>
      have hpg : getZ up (plainZ st) = some e.nd := by unfold plainZ; rw [getZ_mapZ, hgt]; rfl
      obtain ⟨f1, f2⟩ := findE_ok (st := st) hup hgt
      have hab := above_any h p up hp
      rw [f1, f2] at hab
      have HAB := Lib.hid hab
      have HMZ := Lib.hid (show moreZ (plainZ st) p n = if e.nd.own ≠ 0 ∨ 256 < n.data.length ∨ (n.own ≠ 0 ∧ n.ctr ≠ 0) then none else some (onZ up (fun m => { m with kids := m.kids + 1 }) (putZ p n (plainZ st))) by unfold moreZ; rw [hp]; simp only; rw [hpg])
      have HE := Lib.hid (h.get hgt)
      have HGT := Lib.hid hgt
      have HPP := Lib.hid hp
      have HPG := Lib.hid hpg
      have HTZ := Lib.hid htz
      have HFR := Lib.hid hfr
      have HUP := Lib.hid (show up ≠ p from fun x => by rw [x, hfr] at hgt; cases hgt)
      clear hp htz hgt hpg f1 f2 hab hfr hN h
      obtain ⟨ub, udv, und⟩ := e
      unfold ptrZ at HAB ⊢
      simp only at HAB HMZ
      by_cases ho0 : und.own = 0
      · have t1 : ((und.own : Int) != 0) = false := by simp [ho0]
        by_cases hd : 256 < n.data.length
        · have t2 : decide ((256 : Int) < (n.data.length : Int)) = true := by simp; omega
          have HG := Lib.hid (HNO.out (by rw [HMZ.out, if_pos (.inr (.inl hd))]))
          generalize TakeTo tb mb st lim F p nb (.slice Ad n.data.length cd) n w = Q at *
          go_enter Tryz.func34, Tryz.ntmps34
          go_wp2_with fail
          refine HSZ.out.mono ?_
          rintro e w1 ⟨rfl, rfl⟩
          go_wp2_with fail
          refine HAB.out.mono ?_
          rintro e w1 ⟨rfl, hk1⟩
          have hu1 := (HE.out.1.1)
          have d2 := cell_at (hk1.block' hu1) 2
          have e4 := cell_at (hk1.block' HN.out.1) 4
          simp only [List.getElem?_toArray, List.getElem?_cons_zero, List.getElem?_cons_succ] at d2 e4
          clear hu1
          go_wp2
          exact HG.out _ hk1
        · have t2 : decide ((256 : Int) < (n.data.length : Int)) = false := by simp; omega
          by_cases hq : n.own ≠ 0 ∧ n.ctr ≠ 0
          · have t3 : ((n.own : Int) != 0) = true := by rw [bne_iff_ne]; omega
            have t4 : ((n.ctr : Int) != 0) = true := by rw [bne_iff_ne]; omega
            have HG := Lib.hid (HNO.out (by rw [HMZ.out, if_pos (.inr (.inr hq))]))
            generalize TakeTo tb mb st lim F p nb (.slice Ad n.data.length cd) n w = Q at *
            clear hq
            go_enter Tryz.func34, Tryz.ntmps34
            go_wp2_with fail
            refine HSZ.out.mono ?_
            rintro e w1 ⟨rfl, rfl⟩
            go_wp2_with fail
            refine HAB.out.mono ?_
            rintro e w1 ⟨rfl, hk1⟩
            have d2 := cell_at (hk1.block' HE.out.1.1) 2
            have e4 := cell_at (hk1.block' HN.out.1) 4
            have e2 := cell_at (hk1.block' HN.out.1) 2
            have e1 := cell_at (hk1.block' HN.out.1) 1
            simp only [List.getElem?_toArray, List.getElem?_cons_zero, List.getElem?_cons_succ] at d2 e4 e2 e1
            go_wp2
            exact HG.out _ hk1
          · have hmz := HMZ.out
            rw [if_neg (fun x => x.elim (fun y => y ho0) (fun y => y.elim hd hq))] at hmz
            have HFIN := Lib.hid (show ∀ W w5 w6 : World, Kept w W → OwnsZ w5 mb (putZ p ⟨nb, .slice Ad n.data.length cd, n⟩ st) → W.grownBy w5 (some mb) → w6 = w5.setCell ⟨ub, 3, none⟩ (.int .i64 (und.kids + 1)) → TakeTo tb mb st lim F p nb (.slice Ad n.data.length cd) n w (.returned (.bool true)) w6 from fun W w5 w6 kW ho5 hg5 h6 => by
              have hT1 := H.out.kept kW
              have hN1 : NodeAt W ⟨nb, .slice Ad n.data.length cd, n⟩ := HN.out.chg (Chg.of_kept (F := no) kW) (fun x => x) (fun _ _ x => x)
              have hC5 : Chg (fun g => g = mb) W w5 := Chg.of_grown hg5 (fun g hg _ => by cases hg; rfl)
              have hmb : nb ≠ mb := fun x => hnF (by rw [x]; exact H.out.inM)
              have hN5 := hN1.chg hC5 hmb (fun g hg x => by
                obtain ⟨cur, h1⟩ := own_type hN1.2 hg
                obtain ⟨es, clock, hb, -⟩ := hT1.owns
                rw [x, hb] at h1
                cases h1)
              have hT5 := hT1.put2 (G := fun g => F g ∨ g = nb ∨ (Value.slice Ad n.data.length cd).ownBlock = some g) HFR.out ho5 hC5 hN5 hnF ⟨(parent_names HPP.out).1, by show n.data.length ≤ 256; omega, by show n.ver ≤ _; omega, hc, ho, by show -((lim + 1 : Nat) : Int) ≤ n.kids; omega, by show n.kids ≤ ((lim + 1 : Nat) : Int); omega⟩ (fun g x => .inl x) (.inr (.inl rfl)) (fun g x => .inr (.inr x))
              have hgu : getZ up (putZ p ⟨nb, .slice Ad n.data.length cd, n⟩ st) = some ⟨ub, udv, und⟩ := by rw [getZ_put_other HUP.out]; exact HGT.out
              have hNP := (hT5.get hgu).1
              have h62 := Lib.heap_setCell_same (i := 3) hNP.1 (.int .i64 (und.kids + 1))
              rw [← h6] at h62
              have hc6 : Chg (fun g => g = ub) w5 w6 := by
                rw [h6]
                exact (Chg.refl (fun g => g = ub) w5).setCell _ (fun _ => rfl)
              have hN6 : NodeAt w6 ⟨ub, udv, { und with kids := und.kids + 1 }⟩ := by
                refine ⟨?_, own_chg hNP.2 hc6 (fun g hg x => ?_)⟩
                · simp only [Array.setIfInBounds, List.size_toArray, List.length_cons, List.length_nil] at h62
                  simpa using h62
                · obtain ⟨cur, h1⟩ := own_type hNP.2 hg
                  have h2 := hNP.1
                  simp only at h2
                  rw [x, h2] at h1
                  simp only [Option.some.injEq, Obj.cells.injEq] at h1
                  exact absurd h1.2.1 (by decide)
              have hgd := HE.out.2
              have hkl := hgd.kidL
              have hkh := hgd.kidH
              simp only at hkl hkh
              have hT6 := hT5.on hgu (e' := ⟨ub, udv, { und with kids := und.kids + 1 }⟩) rfl hN6 hc6 (Nat.le_refl _) ⟨hgd.path, hgd.small, by have := hgd.ver; simp only at this; show und.ver ≤ _; omega, hgd.ctr, hgd.own, by show -((lim + 1 : Nat) : Int) ≤ und.kids + 1; omega, by show und.kids + 1 ≤ ((lim + 1 : Nat) : Int); omega⟩ (fun g hg => .inl (hT5.inD _ (getZ_mem hgu) g hg))
              have s1 := kW.size
              have s5 := hC5.size
              have s6 := hc6.size
              unfold TakeTo
              rw [HTZ.out, hmz]
              refine (show _ ∧ _ ∧ _ from ⟨rfl, ⟨_, hT6.mono (fun g y => ?_), ?_⟩, ?_⟩)
              · rcases y with (y | y | y) | y
                · exact .inl y
                · exact .inr (.inl y)
                · exact .inr (.inr (.inl y))
                · exact .inr (.inr (.inr ⟨by omega, y.2⟩))
              · unfold plainZ
                rw [mapZ_setZ, mapZ_put]
                refine setZ_onZ (f := fun m => { m with kids := m.kids + 1 }) (n := und) (srt_putZ (srt_mapZ.2 H.out.srt)) ?_
                rw [getZ_put_other HUP.out, getZ_mapZ, HGT.out]
                rfl
              · refine ((Chg.of_kept (F := fun g => F g ∧ No8 w g) kW).trans hC5 (fun g _ y => by rw [y]; exact ⟨H.out.inM, no8_map H.out.owns⟩)).trans hc6 (fun g _ y => ?_)
                rw [y]
                exact ⟨H.out.inN _ (getZ_mem HGT.out), no8_node HE.out.1⟩)
            clear hmz
            have hubm : ub ≠ mb := H.out.nb_ne (getZ_mem HGT.out)
            have hfew := H.out.few
            have b2 : und.kids + 1 ≤ 4611686018427387903 := by have h9 := HE.out.2.kidH; simp only at h9; omega
            have b3 : -4611686018427387903 ≤ und.kids := by have h9 := HE.out.2.kidL; simp only at h9; omega
            generalize TakeTo tb mb st lim F p nb (.slice Ad n.data.length cd) n w = Q at *
            by_cases hn0 : n.own = 0
            · have t3 : ((n.own : Int) != 0) = false := by simp [hn0]
              clear hq hn0
              go_enter Tryz.func34, Tryz.ntmps34
              go_wp2_with fail
              refine HSZ.out.mono ?_
              rintro e w1 ⟨rfl, rfl⟩
              go_wp2_with fail
              refine HAB.out.mono ?_
              rintro e w1 ⟨rfl, hk1⟩
              have c0 := (H.out.kept hk1).c0
              have d2 := cell_at (hk1.block' HE.out.1.1) 2
              have e4 := cell_at (hk1.block' HN.out.1) 4
              have e2 := cell_at (hk1.block' HN.out.1) 2
              simp only [List.getElem?_toArray, List.getElem?_cons_zero, List.getElem?_cons_succ] at d2 e4 e2
              obtain ⟨w5, hrun, ho5, hg5⟩ := (H.out.kept hk1).owns.store (by unfold maxLen; omega) p (by unfold maxLen; omega) ⟨nb, .slice Ad n.data.length cd, n⟩
              unfold ptrZ at hrun
              simp only at hrun
              have hu5 := (Chg.of_grown (F := fun g => g = mb) hg5 (fun g hg _ => by cases hg; rfl)).block' (hk1.block' HE.out.1.1) hubm
              have d3 := cell_at hu5 3
              simp only [List.getElem?_toArray, List.getElem?_cons_zero, List.getElem?_cons_succ] at d3
              have f3 : w5.frozen? ⟨ub, 3, none⟩ = false := frozen_at hu5 3
              have HG := Lib.hid (HFIN.out w1 w5 _ hk1 ho5 hg5 rfl)
              clear ho5 hg5 hu5
              go_wp2
              exact HG.out
            · have t3 : ((n.own : Int) != 0) = true := by rw [bne_iff_ne]; omega
              have t4 : ((n.ctr : Int) != 0) = false := by
                have : n.ctr = 0 := Classical.byContradiction fun x => hq ⟨hn0, x⟩
                simp [this]
              clear hq hn0
              go_enter Tryz.func34, Tryz.ntmps34
              go_wp2_with fail
              refine HSZ.out.mono ?_
              rintro e w1 ⟨rfl, rfl⟩
              go_wp2_with fail
              refine HAB.out.mono ?_
              rintro e w1 ⟨rfl, hk1⟩
              have c0 := (H.out.kept hk1).c0
              have d2 := cell_at (hk1.block' HE.out.1.1) 2
              have e4 := cell_at (hk1.block' HN.out.1) 4
              have e2 := cell_at (hk1.block' HN.out.1) 2
              have e1 := cell_at (hk1.block' HN.out.1) 1
              simp only [List.getElem?_toArray, List.getElem?_cons_zero, List.getElem?_cons_succ] at d2 e4 e2 e1
              obtain ⟨w5, hrun, ho5, hg5⟩ := (H.out.kept hk1).owns.store (by unfold maxLen; omega) p (by unfold maxLen; omega) ⟨nb, .slice Ad n.data.length cd, n⟩
              unfold ptrZ at hrun
              simp only at hrun
              have hu5 := (Chg.of_grown (F := fun g => g = mb) hg5 (fun g hg _ => by cases hg; rfl)).block' (hk1.block' HE.out.1.1) hubm
              have d3 := cell_at hu5 3
              simp only [List.getElem?_toArray, List.getElem?_cons_zero, List.getElem?_cons_succ] at d3
              have f3 : w5.frozen? ⟨ub, 3, none⟩ = false := frozen_at hu5 3
              have HG := Lib.hid (HFIN.out w1 w5 _ hk1 ho5 hg5 rfl)
              clear ho5 hg5 hu5
              go_wp2
              exact HG.out
      · have t1 : ((und.own : Int) != 0) = true := by rw [bne_iff_ne]; omega
        have HG := Lib.hid (HNO.out (by rw [HMZ.out, if_pos (.inl ho0)]))
        generalize TakeTo tb mb st lim F p nb (.slice Ad n.data.length cd) n w = Q at *
        go_enter Tryz.func34, Tryz.ntmps34
        go_wp2_with fail
        refine HSZ.out.mono ?_
        rintro e w1 ⟨rfl, rfl⟩
        go_wp2_with fail
        refine HAB.out.mono ?_
        rintro e w1 ⟨rfl, hk1⟩
        have d2 := cell_at (hk1.block' HE.out.1.1) 2
        simp only [List.getElem?_toArray, List.getElem?_cons_zero, List.getElem?_cons_succ] at d2
        go_wp2
        exact HG.out _ hk1
/-- take, whatever stands there. -/
theorem take_any (h : TreeAt w tb mb st lim F) (p : Pth) (nb : Nat) (dv : Value) (n : ZN) (hN : NodeAt w ⟨nb, dv, n⟩) (hnF : ¬ F nb) (hfr : getZ p st = none) (hpl : p.length ≤ 140737488355328)
    (hv : n.ver ≤ 4611686018427387903) (hc : n.ctr ≤ 4611686018427387903) (ho : n.own ≤ 4611686018427387903) (hk : n.kids = 0) (hlim : lim + 2 < 4611686018427387903) :
    Calls Tryz.prog 34 #[.pointer (some ⟨tb, 0, none⟩), .string ⟨p.toArray⟩, ptrZ nb] w (TakeTo tb mb st lim F p nb dv n w) := by
  by_cases hne : st = []
  · subst hne
    exact take_root h p nb dv n hN hnF hpl hv hc ho hk
  · exact take_more h hne p nb dv n hN hnF hfr hpl hv hc ho hk hlim
end
end Go.Proofs.YtennlckfmgfjbaaGreatDoor
