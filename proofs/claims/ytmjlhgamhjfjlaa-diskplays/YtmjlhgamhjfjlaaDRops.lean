/- The document's Append and Sync, whatever is asked; the walks of its Rename, Remove and Read. -/
import Derived.Test.YtmjlhgamhjfjlaaDRapp
set_option linter.unusedSimpArgs false
set_option linter.unusedVariables false
namespace Go.Proofs.Ytmjlhgamhjfjlaa
open Go.RowKit
/-- The value leads to the document's disk, with these files. -/
def Ref (w : World) (x : Value) (cap : Nat) (fs : Fls) (G : Nat → Prop) : Prop := ∃ rb vL rs, x = .pointer (some ⟨rb, 0, none⟩) ∧ mapV Prod.snd rs = fs ∧ RD w rb vL rs cap G
theorem Ref.mono {w : World} {x : Value} {cap : Nat} {fs : Fls} {G G' : Nat → Prop} (h : Ref w x cap fs G) (hg : ∀ g, G g → G' g) : Ref w x cap fs G' := by
  obtain ⟨rb, vL, rs, rfl, rfl, h⟩ := h
  exact ⟨rb, vL, rs, rfl, rfl, h.mono hg⟩
theorem Ref.chg {w w' : World} {x : Value} {cap : Nat} {fs : Fls} {F G : Nat → Prop} (h : Ref w x cap fs G) (c : Chg F w w') (hF : ∀ g, G g → ¬ F g) : Ref w' x cap fs G := by
  obtain ⟨rb, vL, rs, rfl, rfl, h⟩ := h
  exact ⟨rb, vL, rs, rfl, rfl, h.chg c hF⟩
theorem Ref.kept {w w' : World} {x : Value} {cap : Nat} {fs : Fls} {G : Nat → Prop} (h : Ref w x cap fs G) (k : Kept w w') : Ref w' x cap fs G := h.chg (Chg.of_kept (F := no) k) (fun _ _ x => x)
theorem Ref.still {w w' : World} {x : Value} {cap : Nat} {fs : Fls} {G : Nat → Prop} (h : Ref w x cap fs G) (k : Kept w w') : Ref w' x cap fs (ext G w w') ∧ Chg G w w' := ⟨(h.kept k).mono (fun _ x => .inl x), Chg.of_kept k⟩
theorem rappend_any (k : Nm) (b : List UInt8) (vb x : Value) (cap : Nat) (fs : Fls) (G : Nat → Prop) (w : World) (h : Ref w x cap fs G) (hb : Bts w vb b) (hlim : b.length ≤ 140737488355328) (hn : fs.length < 2000000000000) :
    Calls Try.prog 12 #[x, .string ⟨k.toArray⟩, vb] w fun e w' => e = .returned (.int .i64 (okA cap k b fs)) ∧ Ref w' x cap (if okA cap k b fs = 0 then appS k b fs else fs) (ext G w w') ∧ Chg G w w' := by
  have HR := h
  obtain ⟨rb, vL, rs, rfl, rfl, h⟩ := h
  unfold okA
  cases hk : okN k with
  | false =>
    rw [if_pos rfl]
    exact (rappend_name k vb rb w hk).mono fun e w' ⟨h1, h2⟩ => ⟨h1, HR.still h2⟩
  | true =>
    rw [if_neg (by simp)]
    by_cases hf : cap < used (mapV Prod.snd rs) + b.length
    · rw [if_pos hf]
      exact (rappend_space k b vb rb vL rs cap G w h hb hk hlim hf).mono fun e w' ⟨h1, h2⟩ => ⟨h1, HR.still h2⟩
    · rw [if_neg hf, if_pos rfl]
      cases hh : hasA k rs with
      | false =>
        refine (rappend_new k b vb rb vL rs cap G w h hb hk (by omega) hh (by simpa [mapV] using hn)).mono ?_
        rintro e w' ⟨h1, ⟨vL', rs', h2, h3⟩, h4⟩
        exact ⟨h1, ⟨rb, vL', rs', rfl, h2, h3⟩, h4⟩
      | true =>
        refine (rappend_old k b vb rb vL rs cap G w h hb hk (by omega) hh).mono ?_
        rintro e w' ⟨h1, ⟨vL', rs', h2, h3⟩, h4⟩
        exact ⟨h1, ⟨rb, vL', rs', rfl, h2, h3⟩, h4⟩
set_option maxRecDepth 100000 in
set_option maxHeartbeats 4000000 in
theorem rsync_no (ls : List Nm) (v : Value) (rb : Nat) (vL : Value) (rs : St) (cap : Nat) (G : Nat → Prop) (w : World) (h : RD w rb vL rs cap G) (hv : Txts w v ls) (hall : allT ls rs ≠ 0) :
    Calls Try.prog 14 #[.pointer (some ⟨rb, 0, none⟩), v] w fun e w' => e = .returned (.int .i64 (allT ls rs)) ∧ Kept w w' := by
  have HC := Lib.hid (rall_any ls v rb vL rs cap G w h hv)
  obtain ⟨A, c, rfl, hc1, hc2⟩ := hv.form
  clear h hv
  generalize allT ls rs = e0 at *
  have t0 : (e0 != 0) = true := by simpa using hall
  unfold maxLen at hc2
  go_enter Try.func14, Try.ntmps14
  go_wp2_with fail
  refine HC.out.mono ?_
  rintro e w1 ⟨rfl, hw1⟩
  subst hw1
  go_wp2
  go_ret
  exact ⟨rfl, Kept.refl _⟩
theorem rsync_any (ls : List Nm) (v x : Value) (cap : Nat) (fs : Fls) (G : Nat → Prop) (w : World) (h : Ref w x cap fs G) (hv : ∀ W, Chg G w W → Txts W v ls) :
    Calls Try.prog 14 #[x, v] w fun e w' => e = .returned (.int .i64 (allS ls fs)) ∧ Ref w' x cap (if allS ls fs = 0 then syncS ls fs else fs) (ext G w w') ∧ Chg G w w' := by
  have HR := h
  obtain ⟨rb, vL, rs, rfl, rfl, h⟩ := h
  rw [← allT_eq]
  by_cases h0 : allT ls rs = 0
  · rw [if_pos h0, h0]
    refine (rsync_ok ls v rb vL rs cap G w h hv h0).mono ?_
    rintro e w' ⟨h1, ⟨vL', rs', h2, h3⟩, h4⟩
    exact ⟨h1, ⟨rb, vL', rs', rfl, h2, h3⟩, h4⟩
  · rw [if_neg h0]
    exact (rsync_no ls v rb vL rs cap G w h (hv w (Chg.refl _ _)) h0).mono fun e w' ⟨h1, h2⟩ => ⟨h1, HR.still h2⟩
/-! ### Remove -/
set_option maxRecDepth 100000 in
set_option maxHeartbeats 4000000 in
theorem rremove_ok (ls : List Nm) (v : Value) (rb : Nat) (vL : Value) (rs : St) (cap : Nat) (G : Nat → Prop) (w : World) (h : RD w rb vL rs cap G) (hv : ∀ W, Chg G w W → Txts W v ls) (hall : allT ls rs = 0) :
    Calls Try.prog 18 #[.pointer (some ⟨rb, 0, none⟩), v] w fun e w' => e = .returned (.int .i64 0) ∧ (∃ vL' rs', mapV Prod.snd rs' = remS ls (mapV Prod.snd rs) ∧ RD w' rb vL' rs' cap (ext G w w')) ∧ Chg G w w' := by
  have H := Lib.hid h
  have HV := Lib.hid hv
  have HC := Lib.hid (rall_any ls v rb vL rs cap G w h (hv w (Chg.refl _ _)))
  rw [hall] at HC
  obtain ⟨A, c, rfl, hc1, hc2⟩ := (hv w (Chg.refl _ _)).form
  clear h hv hall
  unfold maxLen at hc2
  go_enter Try.func18, Try.ntmps18
  go_wp2_with fail
  refine HC.out.mono ?_
  rintro e w1 ⟨rfl, hw1⟩
  subst hw1
  go_wp2
  go_loopw [6] (fun i W => ∃ k : Nat, i = .int .i64 (k : Int) ∧ k ≤ ls.length ∧ (∃ vL' rs', mapV Prod.snd rs' = remS (ls.take k) (mapV Prod.snd rs) ∧ RD W rb vL' rs' cap (ext G w W)) ∧ Chg G w W) (fun i _ => ls.length - (intOf i).toNat)
  case atStart => exact ⟨0, rfl, Nat.zero_le _, ⟨vL, rs, rfl, H.out.mono (fun _ x => .inl x)⟩, Chg.refl _ _⟩
  case round =>
    obtain ⟨k, rfl, hk, ⟨vL', rs', hm, hd'⟩, hC⟩ := hrel
    by_cases hlt : k < ls.length
    · obtain ⟨b, o, rfl, hcell⟩ := (HV.out wr hC).at hlt
      have g1 : (k : Int) < (ls.length : Int) := by omega
      have HF := Lib.hid (rfind_any ls[k] rb vL' rs' cap _ wr hd')
      have HD := Lib.hid hd'
      have HM := Lib.hid hm
      clear hd' hm
      cases hh : hasA ls[k] rs' with
      | true =>
        obtain ⟨i, hi, hfi, hnm⟩ := find_pos hh
        rw [hfi] at HF
        have HDR := Lib.hid (rdrop_any i rb vL' rs' cap _ wr HD.out hi)
        have HCD := Lib.hid (show mapV Prod.snd (dropAt i rs') = remS (ls.take (k + 1)) (mapV Prod.snd rs) by
          rw [mapV_dropAt]
          unfold remS
          rw [foldl_take _ _ _ hlt]
          show _ = rem1 (remS (ls.take k) _) _
          rw [← HM.out]
          have := cut_drop HD.out.good.1 (i := i) (by rw [length_mapV]; exact hi)
          rw [mapV_get hi, hnm] at this
          exact this.symm)
        have t1 : decide ((0 : Int) ≤ (i : Int)) = true := by simp
        clear hh hfi hnm
        go_wp2_with fail
        refine HF.out.mono ?_
        rintro e w3 ⟨rfl, hw3⟩
        subst hw3
        go_wp2_with fail
        refine HDR.out.mono ?_
        rintro e w4 ⟨rfl, ⟨vL4, h4⟩, hc4⟩
        have H4 := Lib.hid h4
        clear h4
        go_wp2
        go_roundw
        case rel => exact ⟨k + 1, by go_num, by omega, ⟨_, _, HCD.out, H4.out.mono (fun x hx => ext_ext hC.size hc4.size hx)⟩, hC.chain (hc4.mono (fun x _ e => by rw [e]; exact HD.out.inG))⟩
        case measure => simp [intOf]; omega
      | false =>
        rw [find_neg hh] at HF
        have HCD := Lib.hid (show mapV Prod.snd rs' = remS (ls.take (k + 1)) (mapV Prod.snd rs) by
          unfold remS
          rw [foldl_take _ _ _ hlt]
          show _ = rem1 (remS (ls.take k) _) _
          rw [← HM.out]
          have hg : getA ls[k] (mapV Prod.snd rs') = none := by
            rw [← hasA_mapV Prod.snd, hasA_get] at hh
            cases hq : getA ls[k] (mapV Prod.snd rs') with
            | none => rfl
            | some x => rw [hq] at hh; cases hh
          exact (cut_none hg).symm)
        clear hh
        go_wp2_with fail
        refine HF.out.mono ?_
        rintro e w3 ⟨rfl, hw3⟩
        subst hw3
        go_wp2
        go_roundw
        case rel => exact ⟨k + 1, by go_num, by omega, ⟨_, _, HCD.out, HD.out⟩, hC⟩
        case measure => simp [intOf]; omega
    · obtain rfl : k = ls.length := by omega
      rw [List.take_length] at hm
      have HM := Lib.hid hm
      have HD := Lib.hid hd'
      clear hm hd'
      go_wp2
      go_ret
      exact ⟨rfl, ⟨_, rs', HM.out, HD.out⟩, hC⟩
set_option maxRecDepth 100000 in
set_option maxHeartbeats 4000000 in
theorem rremove_no (ls : List Nm) (v : Value) (rb : Nat) (vL : Value) (rs : St) (cap : Nat) (G : Nat → Prop) (w : World) (h : RD w rb vL rs cap G) (hv : Txts w v ls) (hall : allT ls rs ≠ 0) :
    Calls Try.prog 18 #[.pointer (some ⟨rb, 0, none⟩), v] w fun e w' => e = .returned (.int .i64 (allT ls rs)) ∧ Kept w w' := by
  have HC := Lib.hid (rall_any ls v rb vL rs cap G w h hv)
  obtain ⟨A, c, rfl, hc1, hc2⟩ := hv.form
  clear h hv
  generalize allT ls rs = e0 at *
  have t0 : (e0 != 0) = true := by simpa using hall
  unfold maxLen at hc2
  go_enter Try.func18, Try.ntmps18
  go_wp2_with fail
  refine HC.out.mono ?_
  rintro e w1 ⟨rfl, hw1⟩
  subst hw1
  go_wp2
  go_ret
  exact ⟨rfl, Kept.refl _⟩
theorem rremove_any (ls : List Nm) (v x : Value) (cap : Nat) (fs : Fls) (G : Nat → Prop) (w : World) (h : Ref w x cap fs G) (hv : ∀ W, Chg G w W → Txts W v ls) :
    Calls Try.prog 18 #[x, v] w fun e w' => e = .returned (.int .i64 (allS ls fs)) ∧ Ref w' x cap (if allS ls fs = 0 then remS ls fs else fs) (ext G w w') ∧ Chg G w w' := by
  have HR := h
  obtain ⟨rb, vL, rs, rfl, rfl, h⟩ := h
  rw [← allT_eq]
  by_cases h0 : allT ls rs = 0
  · rw [if_pos h0, h0]
    refine (rremove_ok ls v rb vL rs cap G w h hv h0).mono ?_
    rintro e w' ⟨h1, ⟨vL', rs', h2, h3⟩, h4⟩
    exact ⟨h1, ⟨rb, vL', rs', rfl, h2, h3⟩, h4⟩
  · rw [if_neg h0]
    exact (rremove_no ls v rb vL rs cap G w h (hv w (Chg.refl _ _)) h0).mono fun e w' ⟨h1, h2⟩ => ⟨h1, HR.still h2⟩
/-! ### Read -/
set_option maxRecDepth 100000 in
set_option maxHeartbeats 4000000 in
theorem rread_any (k : Nm) (x : Value) (cap : Nat) (fs : Fls) (G : Nat → Prop) (w : World) (h : Ref w x cap fs G) :
    Calls Try.prog 26 #[x, .string ⟨k.toArray⟩] w fun e w' => e = .returned (.tuple #[.int .i64 (if allS [k] fs = 0 then findI k fs else 0), .int .i64 (allS [k] fs)]) ∧ Kept w w' := by
  obtain ⟨rb, vL, rs, rfl, rfl, h⟩ := h
  rw [← allT_eq, findI_mapV]
  have HC := Lib.hid (show ∀ v W, Kept w W → Txts W v [k] → _ from fun v W hk hv => rall_any [k] v rb vL rs cap G W (h.kept hk) hv)
  have HF := Lib.hid (show ∀ W, Kept w W → _ from fun W hk => rfind_any k rb vL rs cap G W (h.kept hk))
  clear h
  by_cases h0 : allT [k] rs = 0
  · rw [if_pos h0, h0]
    rw [h0] at HC
    generalize findI k rs = fi at *
    clear h0
    go_enter Try.func26, Try.ntmps26
    go_wp2_with fail
    refine (HC.out _ _ ((Kept.refl w).alloc _) (Txts.one w k _)).mono ?_
    rintro e w1 ⟨rfl, hw1⟩
    have hk1 : Kept w w1 := by rw [← hw1]; exact (Kept.refl w).alloc _
    clear hw1
    go_wp2_with fail
    refine (HF.out _ hk1).mono ?_
    rintro e w2 ⟨rfl, hw2⟩
    subst hw2
    go_wp2
    go_ret2
    exact ⟨rfl, hk1⟩
  · rw [if_neg h0]
    generalize allT [k] rs = e0 at *
    have t0 : (e0 != 0) = true := by simpa using h0
    go_enter Try.func26, Try.ntmps26
    go_wp2_with fail
    refine (HC.out _ _ ((Kept.refl w).alloc _) (Txts.one w k _)).mono ?_
    rintro e w1 ⟨rfl, hw1⟩
    have hk1 : Kept w w1 := by rw [← hw1]; exact (Kept.refl w).alloc _
    clear hw1
    go_wp2
    go_ret2
    exact ⟨rfl, hk1⟩
end Go.Proofs.Ytmjlhgamhjfjlaa
