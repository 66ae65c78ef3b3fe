/- The model's order of texts is that of the names. The document's disk in memory; the walks of its Name, Used and Find. The document's disk in memory; the walks of its Used and Find. -/
import Derived.Test.YtngbgngfdklnlaaGreatDoorQWKit
set_option linter.unusedVariables false
namespace Go.Proofs.YtngbgngfdklnlaaGreatDoor
open Go.RowKit
theorem less_before (a b : Nm) : Op.bytesLess a b = bytesBefore a b := by
  induction a generalizing b with
  | nil => cases b <;> rfl
  | cons x r ih =>
    cases b with
    | nil => rfl
    | cons y s => simp [Op.bytesLess, bytesBefore, ih]
theorem srt_ext {α : Type} {a b : List (Nm × α)} (ha : Srt a) (hb : Srt b) (h : ∀ k, getA k a = getA k b) : a = b := by
  induction a generalizing b with
  | nil =>
    cases b with
    | nil => rfl
    | cons y r =>
      have := h y.1
      rw [get_of_mem hb (v := y.2) (by simp)] at this
      cases this
  | cons x r ih =>
    cases b with
    | nil =>
      have := h x.1
      rw [get_of_mem ha (v := x.2) (by simp)] at this
      cases this
    | cons y s =>
      obtain ⟨ha1, ha2⟩ := List.pairwise_cons.1 ha
      obtain ⟨hb1, hb2⟩ := List.pairwise_cons.1 hb
      have hx := h x.1
      rw [get_of_mem ha (v := x.2) (by simp)] at hx
      have hy := h y.1
      rw [get_of_mem hb (v := y.2) (by simp)] at hy
      have hxm := getA_mem hx.symm
      have hym := getA_mem hy
      have hxy : x = y := by
        rcases List.mem_cons.1 hxm with e | e
        · exact e
        · rcases List.mem_cons.1 hym with e' | e'
          · exact e'.symm
          · have h1 := hb1 _ e
            have h2 := ha1 _ e'
            have := bb_trans h1 h2
            rw [bb_irrefl] at this
            cases this
      subst hxy
      congr 1
      refine ih ha2 hb2 (fun k => ?_)
      have hk := h k
      by_cases e : k = x.1
      · subst e
        have n1 : getA x.1 r = none := by
          cases hg : getA x.1 r with
          | none => rfl
          | some v => have := bb_ne (ha1 _ (getA_mem hg)); exact absurd rfl this
        have n2 : getA x.1 s = none := by
          cases hg : getA x.1 s with
          | none => rfl
          | some v => have := bb_ne (hb1 _ (getA_mem hg)); exact absurd rfl this
        rw [n1, n2]
      · have e' : (x.1 == k) = false := by simpa using Ne.symm e
        unfold getA at hk ⊢
        simpa only [List.find?_cons, e'] using hk
end Go.Proofs.YtngbgngfdklnlaaGreatDoor
set_option linter.unusedSimpArgs false
set_option linter.unusedVariables false
namespace Go.Proofs.YtngbgngfdklnlaaGreatDoor
open Go.RowKit
set_option maxRecDepth 100000 in
set_option maxHeartbeats 1000000 in
theorem name_any (l : List UInt8) (w : World) : Calls Tryz.prog 58 #[.string ⟨l.toArray⟩] w fun e w' => e = .returned (.bool (okN l)) ∧ w = w' := by
  by_cases h1 : l.length < 1
  · have HN := Lib.hid (okN_short l (.inl h1))
    have t1 : decide ((l.length : Int) < 1) = true := by simp; omega
    go_enter Tryz.func58, Tryz.ntmps58
    go_wp2
    go_ret
    exact ⟨ret_bool HN.out.symm, rfl⟩
  by_cases h2 : 40 < l.length
  · have HN := Lib.hid (okN_short l (.inr h2))
    have t1 : decide ((l.length : Int) < 1) = false := by simp; omega
    have t2 : decide ((40 : Int) < (l.length : Int)) = true := by simp; omega
    go_enter Tryz.func58, Tryz.ntmps58
    go_wp2
    go_ret
    exact ⟨ret_bool HN.out.symm, rfl⟩
  have HN := Lib.hid (okN_iff l (by omega) (by omega))
  have t1 : decide ((l.length : Int) < 1) = false := by simp; omega
  have t2 : decide ((40 : Int) < (l.length : Int)) = false := by simp; omega
  go_enter Tryz.func58, Tryz.ntmps58
  go_wp2
  go_loop [3] (fun i => ∃ k : Nat, k ≤ l.length ∧ i = .int .i64 (k : Int) ∧ (l.take k).all okC = true) (fun i => l.length - (intOf i).toNat)
  case atStart => exact ⟨0, Nat.zero_le _, rfl, rfl⟩
  case round =>
    obtain ⟨k, hk, rfl, hall⟩ := hrel
    have HA := Lib.hid hall
    clear hall
    by_cases hlt : k < l.length
    · have hp : k < (⟨l.toArray⟩ : ByteArray).size := by rw [str_size]; exact hlt
      have g1 : (k : Int) < (l.length : Int) := by omega
      have hg := str_get l k hp
      generalize hc : l[k] = c at *
      have HC := Lib.hid hc
      clear hc
      cases hb : okC c with
      | true =>
        have HB := Lib.hid hb
        have hx : (97 ≤ c.toNat ∧ c.toNat ≤ 122) ∨ (48 ≤ c.toNat ∧ c.toNat ≤ 57) ∨ c.toNat = 46 ∨ c.toNat = 45 := by
          simp only [okC, Bool.or_eq_true, Bool.and_eq_true, decide_eq_true_eq] at hb
          omega
        clear hb
        rcases hx with hx | hx | hx | hx
        · have d1 : decide ((97 : Int) ≤ (c.toNat : Int)) = true := by simp; omega
          have d2 : decide ((c.toNat : Int) ≤ 122) = true := by simp; omega
          go_wp2
          go_round
          case rel => exact ⟨k + 1, by omega, by go_num, all_take hlt HA.out (by rw [HC.out]; exact HB.out)⟩
          case measure => simp [intOf]; omega
        · have d1 : decide ((97 : Int) ≤ (c.toNat : Int)) = false := by simp; omega
          have d3 : decide ((48 : Int) ≤ (c.toNat : Int)) = true := by simp; omega
          have d4 : decide ((c.toNat : Int) ≤ 57) = true := by simp; omega
          go_wp2
          go_round
          case rel => exact ⟨k + 1, by omega, by go_num, all_take hlt HA.out (by rw [HC.out]; exact HB.out)⟩
          case measure => simp [intOf]; omega
        · have d1 : decide ((97 : Int) ≤ (c.toNat : Int)) = false := by simp; omega
          have d3 : decide ((48 : Int) ≤ (c.toNat : Int)) = false := by simp; omega
          have d5 : ((c.toNat : Int) == 46) = true := by simp; omega
          go_wp2
          go_round
          case rel => exact ⟨k + 1, by omega, by go_num, all_take hlt HA.out (by rw [HC.out]; exact HB.out)⟩
          case measure => simp [intOf]; omega
        · have d1 : decide ((97 : Int) ≤ (c.toNat : Int)) = false := by simp; omega
          have d3 : decide ((48 : Int) ≤ (c.toNat : Int)) = false := by simp; omega
          have d5 : ((c.toNat : Int) == 46) = false := by simp; omega
          have d6 : ((c.toNat : Int) == 45) = true := by simp; omega
          go_wp2
          go_round
          case rel => exact ⟨k + 1, by omega, by go_num, all_take hlt HA.out (by rw [HC.out]; exact HB.out)⟩
          case measure => simp [intOf]; omega
      | false =>
        have HB := Lib.hid (show l.all okC = false from all_bad hlt (by rw [HC.out]; exact hb))
        have hx : (c.toNat < 45 ∨ c.toNat = 47) ∨ (57 < c.toNat ∧ c.toNat < 97) ∨ 122 < c.toNat := by
          simp only [okC, Bool.or_eq_false_iff, Bool.and_eq_false_iff, decide_eq_false_iff_not] at hb
          omega
        clear hb
        have d5 : ((c.toNat : Int) == 46) = false := by simp; omega
        have d6 : ((c.toNat : Int) == 45) = false := by simp; omega
        rcases hx with hx | hx | hx
        · have d1 : decide ((97 : Int) ≤ (c.toNat : Int)) = false := by simp; omega
          have d3 : decide ((48 : Int) ≤ (c.toNat : Int)) = false := by simp; omega
          go_wp2
          go_ret
          exact ⟨ret_bool (by rw [HN.out, HB.out]), rfl⟩
        · have d1 : decide ((97 : Int) ≤ (c.toNat : Int)) = false := by simp; omega
          have d3 : decide ((48 : Int) ≤ (c.toNat : Int)) = true := by simp; omega
          have d4 : decide ((c.toNat : Int) ≤ 57) = false := by simp; omega
          go_wp2
          go_ret
          exact ⟨ret_bool (by rw [HN.out, HB.out]), rfl⟩
        · have d1 : decide ((97 : Int) ≤ (c.toNat : Int)) = true := by simp; omega
          have d2 : decide ((c.toNat : Int) ≤ 122) = false := by simp; omega
          have d3 : decide ((48 : Int) ≤ (c.toNat : Int)) = true := by simp; omega
          have d4 : decide ((c.toNat : Int) ≤ 57) = false := by simp; omega
          go_wp2
          go_ret
          exact ⟨ret_bool (by rw [HN.out, HB.out]), rfl⟩
    · obtain rfl : k = l.length := by omega
      rw [List.take_length] at HA
      go_wp2
      go_ret
      exact ⟨ret_bool (by rw [HN.out, HA.out]), rfl⟩
end Go.Proofs.YtngbgngfdklnlaaGreatDoor
set_option linter.unusedSimpArgs false
set_option linter.unusedVariables false
namespace Go.Proofs.YtngbgngfdklnlaaGreatDoor
open Go.RowKit
/-- The cells of a list of files: a name, its bytes' slice, how many are safe. -/
def rcs (rs : St) : List Value := rs.flatMap fun p => [.string ⟨p.1.toArray⟩, p.2.1, .int .i64 (p.2.2.2 : Int)]
theorem rcs_nil : rcs [] = [] := rfl
theorem rcs_cons (p : Nm × (Value × Fl)) (r : St) : rcs (p :: r) = [.string ⟨p.1.toArray⟩, p.2.1, .int .i64 (p.2.2.2 : Int)] ++ rcs r := rfl
theorem rcs_app (a b : St) : rcs (a ++ b) = rcs a ++ rcs b := by unfold rcs; rw [List.flatMap_append]
theorem rcs_len (rs : St) : (rcs rs).length = rs.length * 3 := by
  induction rs with
  | nil => rfl
  | cons p r ih => rw [rcs_cons, List.length_append, ih]; simp; omega
theorem rcs_at {rs : St} {i : Nat} (h : i < rs.length) : (rcs rs)[i * 3]? = some (.string ⟨rs[i].1.toArray⟩) ∧ (rcs rs)[i * 3 + 1]? = some rs[i].2.1 ∧ (rcs rs)[i * 3 + 2]? = some (.int .i64 (rs[i].2.2.2 : Int)) := by
  induction rs generalizing i with
  | nil => simp at h
  | cons p r ih =>
    rw [rcs_cons]
    cases i with
    | zero => simp
    | succ j =>
      have := ih (i := j) (by simpa using h)
      have e : (j + 1) * 3 = j * 3 + 3 := by omega
      rw [e]
      simp only [List.cons_append, List.nil_append, List.getElem?_cons_succ, List.getElem_cons_succ]
      exact this
/-- The document's disk at the block rb: its list lies in vL. -/
structure RD (w : World) (rb : Nat) (vL : Value) (rs : St) (cap : Nat) (G : Nat → Prop) : Prop where
  cells : w.heap[rb]? = some (.cells #[.int .i64 (cap : Int), vL] 31 (0, 0))
  row : w.ownsRow 0 108 3 vL rs.length (rcs rs)
  files : ∀ p ∈ rs, w.ownsRow 0 5 1 p.2.1 p.2.2.1.length (Lib.byteCells p.2.2.1)
  inG : G rb
  rowG : ∀ g, vL.ownBlock = some g → G g
  filG : ∀ p ∈ rs, ∀ g, p.2.1.ownBlock = some g → G g
  good : Good (mapV Prod.snd rs)
  fits : used (mapV Prod.snd rs) ≤ cap
  capLe : cap ≤ 1073741824
  small : rs.length ≤ 2000000000000
theorem RD.mono {w : World} {rb : Nat} {vL : Value} {rs : St} {cap : Nat} {G G' : Nat → Prop} (h : RD w rb vL rs cap G) (hg : ∀ g, G g → G' g) : RD w rb vL rs cap G' :=
  ⟨h.cells, h.row, h.files, hg _ h.inG, fun g x => hg _ (h.rowG g x), fun p hp g x => hg _ (h.filG p hp g x), h.good, h.fits, h.capLe, h.small⟩
theorem RD.chg {w w' : World} {rb : Nat} {vL : Value} {rs : St} {cap : Nat} {F G : Nat → Prop} (h : RD w rb vL rs cap G) (c : Chg F w w') (hF : ∀ g, G g → ¬ F g) : RD w' rb vL rs cap G :=
  ⟨c.block' h.cells (hF _ h.inG), own_chg h.row c (fun g x => hF _ (h.rowG g x)), fun p hp => own_chg (h.files p hp) c (fun g x => hF _ (h.filG p hp g x)), h.inG, h.rowG, h.filG, h.good, h.fits, h.capLe, h.small⟩
theorem RD.kept {w w' : World} {rb : Nat} {vL : Value} {rs : St} {cap : Nat} {G : Nat → Prop} (h : RD w rb vL rs cap G) (k : Kept w w') : RD w' rb vL rs cap G := h.chg (Chg.of_kept (F := no) k) (fun _ _ x => x)
theorem RD.c0 {w : World} {rb : Nat} {vL : Value} {rs : St} {cap : Nat} {G : Nat → Prop} (h : RD w rb vL rs cap G) : w.cell? ⟨rb, 0, none⟩ = some (.int .i64 (cap : Int)) := by simp [World.cell?, h.cells]
theorem RD.c1 {w : World} {rb : Nat} {vL : Value} {rs : St} {cap : Nat} {G : Nat → Prop} (h : RD w rb vL rs cap G) : w.cell? ⟨rb, 1, none⟩ = some vL := by simp [World.cell?, h.cells]
theorem RD.f1 {w : World} {rb : Nat} {vL : Value} {rs : St} {cap : Nat} {G : Nat → Prop} (h : RD w rb vL rs cap G) : w.frozen? ⟨rb, 1, none⟩ = false := by simp [World.frozen?, h.cells]
theorem RD.form {w : World} {rb : Nat} {vL : Value} {rs : St} {cap : Nat} {G : Nat → Prop} (h : RD w rb vL rs cap G) : ∃ A c, vL = .slice A rs.length c ∧ rs.length ≤ c ∧ c ≤ maxLen := by
  rcases h.row.2 with ⟨rfl, h0⟩ | ⟨g, cap, cur, rfl, -, -, h1, h2, -⟩
  · exact ⟨none, 0, by rw [h0], by omega, by decide⟩
  · exact ⟨_, _, rfl, h1, h2⟩
/-- The cells of one file, and that they may be written. -/
theorem RD.at {w : World} {rb : Nat} {A : Option Addr} {n c : Nat} {rs : St} {cap : Nat} {G : Nat → Prop} (h : RD w rb (.slice A n c) rs cap G) {i : Nat} (hi : i < rs.length) : ∃ g, A = some ⟨g, 0, none⟩ ∧
    w.cell? ⟨g, i * 3, none⟩ = some (.string ⟨rs[i].1.toArray⟩) ∧ w.cell? ⟨g, i * 3 + 1, none⟩ = some rs[i].2.1 ∧ w.cell? ⟨g, i * 3 + 2, none⟩ = some (.int .i64 (rs[i].2.2.2 : Int)) ∧
    ∃ cur, w.heap[g]? = some (.cells cur 108 (0, 0)) := by
  rcases h.row.2 with ⟨e, h0⟩ | ⟨g, cap', cur, e, -, hb, -, -, -, -⟩
  · omega
  · obtain ⟨rfl, -, rfl⟩ : A = some ⟨g, 0, none⟩ ∧ n = rs.length ∧ c = cap' := by simpa using e
    have hrow := h.row
    rw [e] at hrow
    obtain ⟨h1, h2, h3⟩ := rcs_at hi
    have ha : ∀ j, ((⟨g, 0, none⟩ : Addr).add j) = ⟨g, j, none⟩ := fun j => by unfold Addr.add; split <;> simp_all
    have c1 := hrow.cells (g := g) rfl _ _ h1
    have c2 := hrow.cells (g := g) rfl _ _ h2
    have c3 := hrow.cells (g := g) rfl _ _ h3
    rw [ha] at c1 c2 c3
    exact ⟨g, rfl, c1, c2, c3, cur, hb⟩
theorem mapV_get {rs : St} {i : Nat} (h : i < rs.length) : (mapV Prod.snd rs)[i]'(by rw [length_mapV]; exact h) = (rs[i].1, rs[i].2.2) := by simp [mapV]
theorem used_mapV_take {rs : St} {j : Nat} (h : j < rs.length) : used (mapV Prod.snd (rs.take (j + 1))) = used (mapV Prod.snd (rs.take j)) + rs[j].2.2.1.length := by
  have e : ∀ k, mapV Prod.snd (rs.take k) = (mapV Prod.snd rs).take k := fun k => by simp [mapV]
  rw [e, e, List.take_succ_eq_append_getElem (by rw [length_mapV]; exact h), used_app, mapV_get h]
  simp [used]
theorem used_mapV_le (rs : St) (j : Nat) : used (mapV Prod.snd (rs.take j)) ≤ used (mapV Prod.snd rs) := by
  have e : mapV Prod.snd rs = mapV Prod.snd (rs.take j) ++ mapV Prod.snd (rs.drop j) := by
    unfold mapV
    rw [← List.map_append, List.take_append_drop]
  rw [e, used_app]
  omega
set_option maxRecDepth 100000 in
set_option maxHeartbeats 1000000 in
theorem rused_any (rb : Nat) (vL : Value) (rs : St) (cap : Nat) (G : Nat → Prop) (w : World) (h : RD w rb vL rs cap G) : Calls Tryz.prog 59 #[.pointer (some ⟨rb, 0, none⟩)] w fun e w' => e = .returned (.int .i64 (used (mapV Prod.snd rs) : Int)) ∧ w = w' := by
  obtain ⟨A, c, rfl, hc1, hc2⟩ := h.form
  have H := Lib.hid h
  have c1 := h.c1
  have hfit := h.fits
  have hcap := h.capLe
  clear h
  unfold maxLen at hc2
  go_enter Tryz.func59, Tryz.ntmps59
  go_wp2
  go_loop [3, 4] (fun s i => ∃ k : Nat, k ≤ rs.length ∧ i = .int .i64 (k : Int) ∧ s = .int .i64 (used (mapV Prod.snd (rs.take k)) : Int)) (fun _ i => rs.length - (intOf i).toNat)
  case atStart => exact ⟨0, Nat.zero_le _, rfl, rfl⟩
  case round =>
    obtain ⟨k, hk, rfl, rfl⟩ := hrel
    by_cases hlt : k < rs.length
    · obtain ⟨g, rfl, q0, q1, q2, -⟩ := H.out.at hlt
      have g1 : (k : Int) < (rs.length : Int) := by omega
      obtain ⟨Ab, cb, hvb⟩ := own_form (H.out.files _ (List.getElem_mem hlt))
      rw [hvb] at q1
      have hut := used_mapV_take hlt
      have hul := used_mapV_le rs (k + 1)
      rw [hut] at hul
      have HUT := Lib.hid hut
      clear hut hvb
      go_wp2
      go_round
      case rel => exact ⟨k + 1, by omega, by go_num, by rw [HUT.out]; go_num⟩
      case measure => simp [intOf]; omega
    · obtain rfl : k = rs.length := by omega
      go_wp2
      go_ret
      exact ⟨ret_int (by first | rfl | rw [List.take_length]), rfl⟩
/-- The place of a name. -/
def findI {α : Type} (k : Nm) (m : List (Nm × α)) : Int := match m.findIdx? (fun p => p.1 == k) with | some i => (i : Int) | none => -1
theorem find_none {rs : St} {k : Nm} (h : ∀ i (hi : i < rs.length), rs[i].1 ≠ k) : findI k rs = -1 := by
  unfold findI
  have : rs.findIdx? (fun p => p.1 == k) = none := by
    rw [List.findIdx?_eq_none_iff]
    intro x hx
    obtain ⟨i, hi, rfl⟩ := List.getElem_of_mem hx
    simpa using h i hi
  rw [this]
theorem find_some {rs : St} {k : Nm} {i : Nat} (hi : i < rs.length) (h1 : rs[i].1 = k) (h : ∀ j (hj : j < i), rs[j].1 ≠ k) : findI k rs = (i : Int) := by
  unfold findI
  have : rs.findIdx? (fun p => p.1 == k) = some i := by
    rw [List.findIdx?_eq_some_iff_getElem]
    refine ⟨hi, by simpa using h1, fun j hj => by simpa using h j hj⟩
  rw [this]
set_option maxRecDepth 100000 in
set_option maxHeartbeats 1000000 in
theorem rfind_any (nm : Nm) (rb : Nat) (vL : Value) (rs : St) (cap : Nat) (G : Nat → Prop) (w : World) (h : RD w rb vL rs cap G) : Calls Tryz.prog 60 #[.pointer (some ⟨rb, 0, none⟩), .string ⟨nm.toArray⟩] w fun e w' => e = .returned (.int .i64 (findI nm rs)) ∧ w = w' := by
  obtain ⟨A, c, rfl, hc1, hc2⟩ := h.form
  have H := Lib.hid h
  have c1 := h.c1
  clear h
  unfold maxLen at hc2
  go_enter Tryz.func60, Tryz.ntmps60
  go_wp2
  go_loop [5] (fun i => ∃ k : Nat, k ≤ rs.length ∧ i = .int .i64 (k : Int) ∧ ∀ j (hj : j < rs.length), j < k → rs[j].1 ≠ nm) (fun i => rs.length - (intOf i).toNat)
  case atStart => exact ⟨0, Nat.zero_le _, rfl, fun j hj h => absurd h (by omega)⟩
  case round =>
    obtain ⟨k, hk, rfl, hall⟩ := hrel
    have HA := Lib.hid hall
    clear hall
    by_cases hlt : k < rs.length
    · obtain ⟨g, rfl, q0, q1, q2, -⟩ := H.out.at hlt
      have g1 : (k : Int) < (rs.length : Int) := by omega
      by_cases he : rs[k].1 = nm
      · have HF := Lib.hid (find_some hlt he (fun j hj => HA.out j (by omega) hj))
        rw [he] at q0
        clear he
        go_wp2
        go_ret
        exact ⟨ret_int HF.out.symm, rfl⟩
      · have t1 : (rs[k].1 == nm) = false := by simpa using he
        have HE := Lib.hid he
        clear he
        go_wp2
        go_round
        case rel => exact ⟨k + 1, by omega, by go_num, fun j hj hjk => by
          by_cases e : j = k
          · subst e; exact HE.out
          · exact HA.out j hj (by omega)⟩
        case measure => simp [intOf]; omega
    · obtain rfl : k = rs.length := by omega
      have HF := Lib.hid (find_none (k := nm) (fun j hj => HA.out j hj hj))
      go_wp2
      go_ret
      exact ⟨ret_int HF.out.symm, rfl⟩
end Go.Proofs.YtngbgngfdklnlaaGreatDoor
