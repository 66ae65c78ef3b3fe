/- The walks of the document's Good and Digits. The walk of the document's isData. -/
import Derived.Test.YtngbgngfdklnlaaGreatDoorGDLess3
import Derived.Test.YtngbgngfdklnlaaGreatDoorGRefNum2
import Derived.Test.YtngbgngfdklnlaaGreatDoorGSTb4
set_option linter.unusedSimpArgs false
set_option linter.unusedVariables false
namespace Go.Proofs.YtngbgngfdklnlaaGreatDoor
open Go.RowKit
theorem notin_take {l : List UInt8} {k : Nat} (hk : k < l.length) (h : (l.take k).contains 46 = false) (hc : l[k] ≠ 46) : (l.take (k + 1)).contains 46 = false := by
  rw [List.take_succ_eq_append_getElem hk]
  rw [← Bool.not_eq_true, List.contains_iff_mem] at h ⊢
  intro hm
  rcases List.mem_append.1 hm with hm | hm
  · exact h hm
  · rw [List.mem_singleton] at hm
    exact hc hm.symm
set_option maxRecDepth 100000 in
set_option maxHeartbeats 1000000 in
theorem refGood_any (l : Nm) (w : World) : Calls Tryz.prog 45 #[.string ⟨l.toArray⟩, .int .i64 16] w fun e w' => e = .returned (.bool (goodL l)) ∧ w = w' := by
  have HNA := Lib.hid (name_any l w)
  generalize hr : goodL l = r
  unfold goodL at hr
  by_cases h1 : l.length < 1
  · have HN := Lib.hid (show false = r by rw [← hr, okN_short l (.inl h1)]; rfl)
    have t1 : decide ((l.length : Int) < 1) = true := by simp; omega
    clear hr
    go_enter Tryz.func45, Tryz.ntmps45
    go_wp2
    go_ret
    exact ⟨ret_bool HN.out, rfl⟩
  have t1 : decide ((l.length : Int) < 1) = false := by simp; omega
  by_cases h2 : 12 < l.length
  · have HN := Lib.hid (show false = r by rw [← hr, decide_eq_false (show ¬ l.length ≤ 12 by omega)]; simp)
    have t2 : decide ((12 : Int) < (l.length : Int)) = true := by simp; omega
    clear hr
    go_enter Tryz.func45, Tryz.ntmps45
    go_wp2
    go_ret
    exact ⟨ret_bool HN.out, rfl⟩
  have t2 : decide ((12 : Int) < (l.length : Int)) = false := by simp; omega
  rw [decide_eq_true (show l.length ≤ 12 by omega), Bool.true_and] at hr
  cases hok : okN l with
  | false =>
    rw [hok] at hr HNA
    have HN := Lib.hid (show false = r by rw [← hr]; rfl)
    clear hr
    go_enter Tryz.func45, Tryz.ntmps45
    go_wp2_with fail
    refine HNA.out.mono ?_
    rintro e w1 ⟨rfl, rfl⟩
    go_wp2
    go_ret
    exact ⟨ret_bool HN.out, rfl⟩
  | true =>
    rw [hok, Bool.true_and] at hr
    rw [hok] at HNA
    have HR := Lib.hid hr
    clear hr
    go_enter Tryz.func45, Tryz.ntmps45
    go_wp2_with fail
    refine HNA.out.mono ?_
    rintro e w1 ⟨rfl, rfl⟩
    go_wp2
    go_loop [5] (fun i => ∃ k : Nat, k ≤ l.length ∧ i = .int .i64 (k : Int) ∧ (l.take k).contains 46 = false) (fun i => l.length - (intOf i).toNat)
    case atStart => exact ⟨0, Nat.zero_le _, rfl, rfl⟩
    case round =>
      obtain ⟨k, hk, rfl, hall⟩ := hrel
      have HA := Lib.hid hall
      clear hall
      by_cases hlt : k < l.length
      · have hp : k < (⟨l.toArray⟩ : ByteArray).size := by rw [str_size]; exact hlt
        have g1 : (k : Int) < (l.length : Int) := by omega
        have hg := str_get l k hp
        by_cases hb : l[k] = 46
        · have HN := Lib.hid (show false = r by
            rw [← HR.out]
            have : l.contains 46 = true := by rw [List.contains_iff_mem, ← hb]; exact List.getElem_mem hlt
            rw [this]; rfl)
          have d1 : ((l[k].toNat : Int) == 46) = true := by rw [hb]; rfl
          generalize l[k] = c at *
          go_wp2
          go_ret
          exact ⟨ret_bool HN.out, rfl⟩
        · have hne : l[k].toNat ≠ 46 := fun e => hb (UInt8.toNat_inj.1 e)
          have HB := Lib.hid hb
          have d1 : ((l[k].toNat : Int) == 46) = false := by simp; omega
          generalize hc : l[k] = c at *
          clear hb
          go_wp2
          go_round
          case rel => exact ⟨k + 1, by omega, by go_num, notin_take hlt HA.out (by rw [hc]; exact HB.out)⟩
          case measure => simp [intOf]; omega
      · obtain rfl : k = l.length := by omega
        have HN := Lib.hid (show true = r by
          rw [← HR.out]
          have := HA.out
          rw [List.take_length] at this
          rw [this]; rfl)
        go_wp2
        go_ret
        exact ⟨ret_bool HN.out, rfl⟩
theorem dec_step {m : Nat} (h : ¬ m < 10) : Lib.decDigits m = Lib.decDigits (m / 10) ++ [UInt8.ofNat (48 + m % 10)] := by rw [Lib.decDigits, dif_neg h]
theorem dec_small {m : Nat} (h : m < 10) : Lib.decDigits m = [UInt8.ofNat (48 + m)] := by rw [Lib.decDigits, dif_pos h]
set_option maxRecDepth 100000 in
set_option maxHeartbeats 4000000 in
theorem digits_any (n : Nat) (w : World) (hn : n ≤ 4611686018427387903) : Calls Tryz.prog 47 #[.int .i64 (n : Int)] w fun e w' => e = .returned (.string ⟨(Lib.decDigits n).toArray⟩) ∧ Kept w w' := by
  have hlen := dec_len n hn
  have i0 : decide ((n : Int) < 0) = false := by simp
  go_enter Tryz.func47, Tryz.ntmps47
  go_wp2
  go_loopw [0, 3] (fun t u W => ∃ (m : Nat) (s : List UInt8), t = .int .i64 (m : Int) ∧ u = .string ⟨s.toArray⟩ ∧ m ≤ n ∧ Lib.decDigits m ++ s = Lib.decDigits n ∧ Kept w W) (fun t _ _ => (intOf t).toNat)
  case atStart => exact ⟨n, [], rfl, rfl, Nat.le_refl _, by rw [List.append_nil], Kept.refl w⟩
  case round =>
    obtain ⟨m, s, rfl, rfl, hm, hd, hK⟩ := hrel
    have hsl : s.length ≤ 20 := by
      have := congrArg List.length hd
      rw [List.length_append] at this
      omega
    have HD := Lib.hid hd
    by_cases hlt : m < 10
    · obtain ⟨ch, hch⟩ : ∃ ch, ch = UInt8.ofNat (48 + m) := ⟨_, rfl⟩
      have hcv := conv_run (Bts.one wr ((48 : Int) + (m : Int)) (by omega) (by omega) 5)
      rw [show ((48 : Int) + (m : Int)).toNat = 48 + m by omega, ← hch] at hcv
      have HF := Lib.hid (show (⟨#[ch]⟩ : ByteArray) ++ ⟨s.toArray⟩ = ⟨(Lib.decDigits n).toArray⟩ by
        rw [show (⟨#[ch]⟩ : ByteArray) = ⟨[ch].toArray⟩ from rfl, str_append, ← HD.out, dec_small hlt, hch])
      have i1 : decide ((10 : Int) ≤ (m : Int)) = false := by simp; omega
      have hcv : (convert 32 9 (.slice (some ⟨wr.heap.size, 0, none⟩) 1 1)).run Tryz.prog (wr.alloc (.cells #[.int .u8 ((48 : Int) + (m : Int))] 5)) = .ok (.string ⟨#[ch]⟩) (wr.alloc (.cells #[.int .u8 ((48 : Int) + (m : Int))] 5)) := hcv
      have hmod : ((48 : Int) + (m : Int)) % 256 = (48 : Int) + (m : Int) := by omega
      clear hd hch
      go_wp2
      go_ret
      exact ⟨congrArg (fun x => Ending.returned (.string x)) HF.out, hK.alloc _⟩
    · obtain ⟨ch, hch⟩ : ∃ ch, ch = UInt8.ofNat (48 + m % 10) := ⟨_, rfl⟩
      have hcv := conv_run (Bts.one wr ((48 : Int) + (m : Int) % 10) (by omega) (by omega) 5)
      rw [show ((48 : Int) + (m : Int) % 10).toNat = 48 + m % 10 by omega, ← hch] at hcv
      have HF := Lib.hid (show (⟨#[ch]⟩ : ByteArray) ++ ⟨s.toArray⟩ = ⟨(ch :: s).toArray⟩ by
        rw [show (⟨#[ch]⟩ : ByteArray) = ⟨[ch].toArray⟩ from rfl, str_append]; rfl)
      have i1 : decide ((10 : Int) ≤ (m : Int)) = true := by simp; omega
      have hcv : (convert 32 9 (.slice (some ⟨wr.heap.size, 0, none⟩) 1 1)).run Tryz.prog (wr.alloc (.cells #[.int .u8 ((48 : Int) + (m : Int) % 10)] 5)) = .ok (.string ⟨#[ch]⟩) (wr.alloc (.cells #[.int .u8 ((48 : Int) + (m : Int) % 10)] 5)) := hcv
      have hmod : ((48 : Int) + (m : Int) % 10) % 256 = (48 : Int) + (m : Int) % 10 := by omega
      have HCH := Lib.hid hch
      clear hd hch
      go_wp2
      go_roundw
      case rel =>
        refine ⟨m / 10, ch :: s, by go_num, by rw [HF.out], by omega, ?_, hK.alloc _⟩
        rw [← HD.out, dec_step hlt, List.append_assoc, HCH.out]
        rfl
      case measure => simp [intOf]; omega
end Go.Proofs.YtngbgngfdklnlaaGreatDoor
set_option linter.unusedSimpArgs false
set_option linter.unusedVariables false
namespace Go.Proofs.YtngbgngfdklnlaaGreatDoor
open Go.RowKit
/-- What digits spell. -/
def dv (l : List UInt8) : Nat := l.foldl (fun a c => a * 10 + (c.toNat - 48)) 0
theorem dv_snoc (l : List UInt8) (c : UInt8) : dv (l ++ [c]) = dv l * 10 + (c.toNat - 48) := by unfold dv; rw [List.foldl_append]; rfl
theorem dv_dec (m : Nat) : dv (Lib.decDigits m) = m := by
  induction m using Nat.strongRecOn with
  | _ m ih =>
    by_cases h : m < 10
    · rw [dec_small h]
      show 0 * 10 + ((UInt8.ofNat (48 + m)).toNat - 48) = m
      rw [UInt8.toNat_ofNat']
      omega
    · rw [dec_step h, dv_snoc, ih (m / 10) (by omega), UInt8.toNat_ofNat']
      omega
theorem dv_grow (l : List UInt8) : ∀ acc : Nat, acc ≤ l.foldl (fun a c => a * 10 + (c.toNat - 48)) acc := by
  induction l with
  | nil => intro acc; exact Nat.le_refl _
  | cons c r ih =>
    intro acc
    rw [List.foldl_cons]
    exact Nat.le_trans (by omega) (ih _)
theorem dv_take (l : List UInt8) (k : Nat) : dv (l.take k) ≤ dv l := by
  have : dv l = (l.drop k).foldl (fun a c => a * 10 + (c.toNat - 48)) (dv (l.take k)) := by
    unfold dv
    rw [← List.foldl_append, List.take_append_drop]
  rw [this]
  exact dv_grow _ _
theorem dec_len19 (n : Nat) (h : n ≤ 4611686018427387903) : (Lib.decDigits n).length ≤ 19 := by
  rw [Lib.decDigits_length]
  rcases Nat.lt_or_ge n 1000000000000000000 with h1 | h1
  · have : ∀ k u, u < 10 ^ (k + 1) → Lib.nDigits u ≤ k + 1 := by
      intro k
      induction k with
      | zero => intro u hu; rw [Lib.nDigits_small (by simpa using hu)]; exact Nat.le_refl _
      | succ k ih =>
        intro u hu
        by_cases hs : u < 10
        · rw [Lib.nDigits_small hs]; omega
        · rw [Lib.nDigits_big hs]
          have := ih (u / 10) (by rw [Nat.pow_succ] at hu; omega)
          omega
    exact Nat.le_trans (this 17 n (by omega)) (by omega)
  · have := Lib.nDigits_unique 18 n (by omega) (by omega)
    omega
theorem isDat_form {nm f : Nm} (h : isDat nm f = true) : ∃ m : Nat, m ≤ 4611686018427387903 ∧ f = sN nm ++ Lib.decDigits m := by
  unfold isDat at h
  rw [decide_eq_true_eq] at h
  exact h
theorem sN_len (nm : Nm) : (sN nm).length = nm.length + 2 := by unfold sN; simp
set_option maxRecDepth 100000 in
set_option maxHeartbeats 4000000 in
theorem isData_any (nm f : Nm) (w : World) (hnl : nm.length ≤ 12) (hf : f.length ≤ 40) : Calls Tryz.prog 53 #[.string ⟨nm.toArray⟩, .string ⟨f.toArray⟩] w fun e w' => e = .returned (.bool (isDat nm f)) ∧ Kept w w' := by
  have HID := Lib.hid (show isDat nm f = true → _ from isDat_form)
  have HIC := Lib.hid (show ∀ n : Nat, n ≤ 4611686018427387903 → f = sN nm ++ Lib.decDigits n → isDat nm f = true from fun n hn h => by rw [h]; exact isDat_dat nm n hn)
  generalize isDat nm f = r at *
  by_cases h1 : f.length ≤ nm.length + 2
  · have HR := Lib.hid (show false = r by
      cases r with
      | false => rfl
      | true =>
        obtain ⟨m, hm, hfm⟩ := HID.out rfl
        have h3 := congrArg List.length hfm
        rw [List.length_append, sN_len] at h3
        have : 0 < (Lib.decDigits m).length := List.length_pos_iff.2 (dec_ne m)
        omega)
    have i1 : decide ((f.length : Int) ≤ (nm.length : Int) + 2) = true := by simp; omega
    go_enter Tryz.func53, Tryz.ntmps53
    go_wp2
    go_ret
    exact ⟨ret_bool HR.out, Kept.refl _⟩
  have i1 : decide ((f.length : Int) ≤ (nm.length : Int) + 2) = false := by simp; omega
  by_cases h2 : nm.length + 2 + 19 < f.length
  · have HR := Lib.hid (show false = r by
      cases r with
      | false => rfl
      | true =>
        obtain ⟨m, hm, hfm⟩ := HID.out rfl
        have h3 := congrArg List.length hfm
        rw [List.length_append, sN_len] at h3
        have := dec_len19 m hm
        omega)
    have i2 : decide ((nm.length : Int) + 2 + 19 < (f.length : Int)) = true := by simp; omega
    go_enter Tryz.func53, Tryz.ntmps53
    go_wp2
    go_ret
    exact ⟨ret_bool HR.out, Kept.refl _⟩
  have i2 : decide ((nm.length : Int) + 2 + 19 < (f.length : Int)) = false := by simp; omega
  have hex : (⟨f.toArray⟩ : ByteArray).extract 0 (nm.length + 2) = ⟨(f.take (nm.length + 2)).toArray⟩ := by rw [str_extract]; simp
  have hex2 : (⟨f.toArray⟩ : ByteArray).extract (nm.length + 2) f.length = ⟨(f.drop (nm.length + 2)).toArray⟩ := by
    rw [str_extract, List.take_of_length_le (by simp)]
  have hsn : (⟨nm.toArray⟩ : ByteArray) ++ ⟨#[46, 115]⟩ = ⟨(sN nm).toArray⟩ := str_append nm [46, 115]
  have hsz : (⟨f.toArray⟩ : ByteArray).size = f.length := str_size f
  by_cases h3 : f.take (nm.length + 2) = sN nm
  · have HX := Lib.hid (show ∀ m : Nat, f = sN nm ++ Lib.decDigits m ↔ f.drop (nm.length + 2) = Lib.decDigits m from fun m => by
      constructor
      · intro h
        rw [h, ← sN_len nm, List.drop_left]
      · intro h
        rw [← List.take_append_drop (nm.length + 2) f, h3, h])
    have hfk : ∀ k, (f.drop (nm.length + 2))[k]? = f[nm.length + 2 + k]? := fun k => by rw [List.getElem?_drop]
    have hxl : (f.drop (nm.length + 2)).length = f.length - (nm.length + 2) := List.length_drop
    have h3b : (f.take (nm.length + 2) == sN nm) = true := by simpa using h3
    have HDI := Lib.hid (show ∀ n W, n ≤ 4611686018427387903 → _ from fun n W hn => digits_any n W hn)
    generalize f.drop (nm.length + 2) = x at *
    generalize f.take (nm.length + 2) = ft at *
    have HXK := Lib.hid hfk
    generalize hsg : sN nm = sn at *
    have HH3 := Lib.hid h3
    clear hfk h3 hsg
    go_enter Tryz.func53, Tryz.ntmps53
    go_wp2
    go_loop [6, 7] (fun v i => ∃ k j : Nat, j = nm.length + 2 + k ∧ k ≤ x.length ∧ v = .int .i64 ((dv (x.take k) : Nat) : Int) ∧ i = .int .i64 (j : Int) ∧ dv (x.take k) ≤ 4611686018427387903) (fun _ i => f.length - (intOf i).toNat)
    case atStart => exact ⟨0, nm.length + 2, rfl, Nat.zero_le _, rfl, by go_num, Nat.zero_le _⟩
    case round =>
      obtain ⟨k, j, hj, hk, rfl, rfl, hv⟩ := hrel
      have HJ := Lib.hid hj
      have hj1 : nm.length + 2 + k ≤ j := by omega
      have hj2 : j ≤ nm.length + 2 + k := by omega
      clear hj
      by_cases hlt : k < x.length
      · have hjl : j < f.length := by omega
        have hp : j < (⟨f.toArray⟩ : ByteArray).size := by rw [str_size]; exact hjl
        have g1 : (j : Int) < (f.length : Int) := by omega
        have hg := str_get f j hp
        have hxc : x[k]? = some f[j] := by rw [HXK.out k, ← HJ.out, List.getElem?_eq_getElem hjl]
        have htk : dv (x.take (k + 1)) = dv (x.take k) * 10 + (f[j].toNat - 48) := by
          obtain ⟨hk', e⟩ := List.getElem?_eq_some_iff.1 hxc
          rw [List.take_succ_eq_append_getElem hlt, dv_snoc, e]
        have hmem : f[j] ∈ x := List.mem_of_getElem? hxc
        have HTK := Lib.hid htk
        have HME := Lib.hid hmem
        generalize f[j] = c at *
        generalize hvv : dv (x.take k) = v at *
        have HVV := Lib.hid hvv
        clear hvv
        clear htk hmem hxc
        by_cases hd : c.toNat < 48 ∨ 57 < c.toNat
        · have HR := Lib.hid (show false = r by
            cases r with
            | false => rfl
            | true =>
              obtain ⟨m, hm, hfm⟩ := HID.out rfl
              rw [HX.out m] at hfm
              have := dec_digit m c (by rw [← hfm]; exact HME.out)
              omega)
          rcases hd with hd | hd
          · have d1 : decide ((c.toNat : Int) < 48) = true := by simp; omega
            go_wp2
            go_ret
            exact ⟨ret_bool HR.out, Kept.refl _⟩
          · have d1 : decide ((c.toNat : Int) < 48) = false := by simp; omega
            have d2 : decide ((57 : Int) < (c.toNat : Int)) = true := by simp; omega
            go_wp2
            go_ret
            exact ⟨ret_bool HR.out, Kept.refl _⟩
        · have d1 : decide ((c.toNat : Int) < 48) = false := by simp; omega
          have d2 : decide ((57 : Int) < (c.toNat : Int)) = false := by simp; omega
          have hc1 : 48 ≤ c.toNat := by omega
          have hc2 : c.toNat ≤ 57 := by omega
          by_cases hov : v * 10 + (c.toNat - 48) ≤ 4611686018427387903
          · have q1 : decide ((4611686018427387903 - ((c.toNat : Int) - 48)) / 10 < (v : Int)) = false := by simp; omega
            clear hd
            go_wp2
            go_round
            case rel =>
              refine ⟨k + 1, j + 1, by omega, by omega, ?_, by go_num, by rw [HTK.out]; exact hov⟩
              rw [HTK.out]
              have : ((v * 10 + (c.toNat - 48) : Nat) : Int) = (v : Int) * 10 + ((c.toNat : Int) - 48) := by omega
              rw [this]
            case measure => simp [intOf]; omega
          · have HR := Lib.hid (show false = r by
              cases r with
              | false => rfl
              | true =>
                obtain ⟨m, hm, hfm⟩ := HID.out rfl
                rw [HX.out m] at hfm
                have h5 := dv_take x (k + 1)
                rw [HTK.out, hfm, dv_dec] at h5
                omega)
            have q1 : decide ((4611686018427387903 - ((c.toNat : Int) - 48)) / 10 < (v : Int)) = true := by simp; omega
            clear hd
            go_wp2
            go_ret
            exact ⟨ret_bool HR.out, Kept.refl _⟩
      · obtain rfl : k = x.length := by omega
        rw [List.take_length] at hv ⊢
        have HR := Lib.hid (show (Lib.decDigits (dv x) == x) = r by
          cases r with
          | true =>
            obtain ⟨m, hm, hfm⟩ := HID.out rfl
            rw [HX.out m] at hfm
            rw [hfm, dv_dec]
            simp
          | false =>
            rw [beq_eq_false_iff_ne]
            intro he
            have := HIC.out (dv x) hv ((HX.out (dv x)).2 he.symm)
            cases this)
        have HDV := Lib.hid (HDI.out (dv x))
        have hds := dec_len (dv x) hv
        generalize dv x = v at *
        generalize Lib.decDigits v = ds at *
        have hjl : j = f.length := by omega
        have HJL := Lib.hid hjl
        clear hjl
        have g1 : ¬ (j : Int) < (f.length : Int) := by omega
        have g2 : decide ((j : Int) < (f.length : Int)) = false := by simp; omega
        have hKr := (Kept.refl w).drew
        go_wp2
        go_region_with (go_at_call 47; refine (HDV.out _ hv).mono ?_; rintro e w3 ⟨rfl, hq⟩; have hq1 := hKr.trans hq)
        all_goals (
          go_wp2
          go_ret
          exact ⟨ret_bool HR.out, hq1⟩)
  · have HR := Lib.hid (show false = r by
      cases r with
      | false => rfl
      | true =>
        obtain ⟨m, hm, hfm⟩ := HID.out rfl
        exact absurd (by rw [hfm, ← sN_len nm, List.take_left]) h3)
    have h3b : (f.take (nm.length + 2) == sN nm) = false := by simpa using h3
    generalize f.take (nm.length + 2) = ft at *
    generalize sN nm = sn at *
    go_enter Tryz.func53, Tryz.ntmps53
    go_wp2
    go_ret
    exact ⟨ret_bool HR.out, Kept.refl _⟩
end Go.Proofs.YtngbgngfdklnlaaGreatDoor
