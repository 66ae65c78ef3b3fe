/- The walks of the writer's Blobs and Texts. -/
import Derived.Test.YtmodolighoojoaaGreatDoorQNum
import Derived.Test.YtmodolighoojoaaGreatDoorQBufV
import Derived.Test.YtmodolighoojoaaGreatDoorQFrm
namespace Go.Proofs.YtmodolighoojoaaGreatDoor
open Go.RowKit
/-- What is written of several payloads. -/
def blobAll (ls : List (List UInt8)) : List UInt8 := ls.flatMap fun x => put x.length ++ x
theorem blobAll_snoc (ls : List (List UInt8)) (x : List UInt8) : blobAll (ls ++ [x]) = blobAll ls ++ (put x.length ++ x) := by
  unfold blobAll; simp [List.flatMap_append]
theorem blobAll_append (ls ms : List (List UInt8)) : blobAll (ls ++ ms) = blobAll ls ++ blobAll ms := by
  unfold blobAll; simp [List.flatMap_append]
theorem blobAll_take (ls : List (List UInt8)) (k : Nat) : (blobAll (ls.take k)).length ≤ (blobAll ls).length := by
  have := congrArg List.length (blobAll_append (ls.take k) (ls.drop k))
  rw [List.take_append_drop, List.length_append] at this
  omega
theorem okNum_nat (n : Nat) (h : n ≤ 4611686018427387903) : okNum (n : Int) = true := by unfold okNum; simp; omega
/-- The value is a slice of texts. -/
def Strs (w : World) (v : Value) (ls : List (List UInt8)) : Prop :=
  ∃ A c, v = .slice A ls.length c ∧ ls.length ≤ c ∧ c ≤ maxLen ∧ (0 < ls.length → ∃ b o, A = some ⟨b, o, none⟩ ∧ ∀ k l, ls[k]? = some l → w.cell? ⟨b, o + k, none⟩ = some (.string ⟨l.toArray⟩))
theorem Strs.kept {w w' : World} {v : Value} {ls : List (List UInt8)} (h : Strs w v ls) (k : Kept w w') : Strs w' v ls := by
  obtain ⟨A, c, rfl, h1, h2, h3⟩ := h
  refine ⟨A, c, rfl, h1, h2, fun hl => ?_⟩
  obtain ⟨b, o, rfl, hc⟩ := h3 hl
  exact ⟨b, o, rfl, fun i x hx => k.cell (hc i x hx)⟩

theorem IsW.rowLt {w : World} {b : Nat} {bad : Bool} {l : List UInt8} (h : IsW w b bad l) {i : Nat} (hi : rowOf w b = some i) : i < w.heap.size := by
  rcases h.cases with ⟨-, lr, h3⟩ | ⟨-, g, cap, cur, lr, h3, hg, -⟩
  · rw [rowOf_three h3] at hi; cases hi
  · rw [rowOf_three h3] at hi
    obtain rfl : g = i := by simpa [Value.ownBlock] using hi
    exact (Array.getElem?_eq_some_iff.1 hg).1
theorem IsW.rowAfter {w w' : World} {b : Nat} {bad : Bool} {l : List UInt8} (h : IsW w b bad l) (k : Kept w w') : rowOf w' b = rowOf w b := by
  obtain ⟨⟨hB, v, lr, h3, hown, hne⟩, hrow⟩ := h
  unfold rowOf
  rw [h3.c0, k.cell h3.c0]
theorem IsW.after {w w' : World} {b : Nat} {bad : Bool} {l : List UInt8} (h : IsW w b bad l) (k : Kept w w') : IsW w' b bad l := by
  have hr := h.rowAfter k
  obtain ⟨⟨hB, v, lr, ⟨cs, hb, h0, h1, h2, hr'⟩, hown, hne⟩, hrow⟩ := h
  have hl : b < w.heap.size := (Array.getElem?_eq_some_iff.1 hb).1
  exact ⟨⟨hB, v, lr, ⟨cs, (k.block b hl).trans hb, h0, h1, h2, hr'⟩, hown.kept (⟨k.os, k.tape, k.output, k.size, fun i hi _ => k.block i hi⟩ : w.grownBy w' (some b)) (Or.inr hne), hne⟩, fun e => hr.trans (hrow e)⟩
theorem Ints.framed {w : World} {b : Nat} {v : Value} {ns : List Int} (h : Ints w v ns) (ha : ∀ bi o n c, v = .slice (some ⟨bi, o, none⟩) n c → bi ≠ b ∧ rowOf w b ≠ some bi) : ∀ W, WFr b w W → Ints W v ns := fun W hF => by
  obtain ⟨A, c, rfl, h1, h2, h3⟩ := h
  refine ⟨A, c, rfl, h1, h2, fun hl => ?_⟩
  obtain ⟨bi, o, rfl, hc⟩ := h3 hl
  obtain ⟨a1, a2⟩ := ha _ _ _ _ rfl
  exact ⟨bi, o, rfl, fun i x hx => hF.cell (hc i x hx) a1 a2⟩
/-- The value is a slice of the values us, which are slices of bytes. -/
def PartsU (w : World) (v : Value) (us : List Value) (ls : List (List UInt8)) : Prop :=
  us.length = ls.length ∧ ∃ A c, v = .slice A ls.length c ∧ ls.length ≤ c ∧ c ≤ maxLen ∧ (0 < ls.length → ∃ b o, A = some ⟨b, o, none⟩ ∧ ∀ k u l, us[k]? = some u → ls[k]? = some l → w.cell? ⟨b, o + k, none⟩ = some u ∧ Bts w u l)
theorem PartsU.kept {w w' : World} {v : Value} {us : List Value} {ls : List (List UInt8)} (h : PartsU w v us ls) (k : Kept w w') : PartsU w' v us ls := by
  obtain ⟨h0, A, c, rfl, h1, h2, h3⟩ := h
  refine ⟨h0, A, c, rfl, h1, h2, fun hl => ?_⟩
  obtain ⟨b, o, rfl, hc⟩ := h3 hl
  exact ⟨b, o, rfl, fun i u x hu hx => ⟨k.cell (hc i u x hu hx).1, (hc i u x hu hx).2.kept k⟩⟩
theorem Parts.values {w : World} {v : Value} {ls : List (List UInt8)} (h : Parts w v ls) : ∃ us, PartsU w v us ls := by
  obtain ⟨A, c, rfl, h1, h2, h3⟩ := h
  by_cases hl : 0 < ls.length
  · obtain ⟨b, o, rfl, hc⟩ := h3 hl
    refine ⟨(List.range ls.length).map fun k => (w.cell? ⟨b, o + k, none⟩).getD (.bool false), by simp, _, c, rfl, h1, h2, fun _ => ⟨b, o, rfl, fun k u l hu hx => ?_⟩⟩
    have hk : k < ls.length := (List.getElem?_eq_some_iff.1 hx).1
    obtain ⟨u', e, hb⟩ := hc k l hx
    rw [List.getElem?_map, List.getElem?_range hk] at hu
    simp only [Option.map_some, e, Option.getD_some, Option.some.injEq] at hu
    subst hu
    exact ⟨e, hb⟩
  · exact ⟨[], by simp; omega, A, c, rfl, h1, h2, fun h => absurd h hl⟩

set_option maxRecDepth 100000 in
set_option maxHeartbeats 400000 in
theorem blobs_any (b : Nat) (bad : Bool) (l : List UInt8) (ls : List (List UInt8)) (us : List Value) (v : Value) (w : World) (hv : ∀ W, WFr b w W → PartsU W v us ls)
    (h : IsW w b bad l) (hlim : l.length + (blobAll ls).length + 9 ≤ 140737488355328) :
    Calls Tryz.prog 107 #[.pointer (some ⟨b, 0, none⟩), v] w fun e w' => e = .returned (.tuple #[]) ∧ IsW w' b bad (l ++ blobAll ls) ∧ WFr b w w' := by
  obtain ⟨hul, A, c, rfl, hc1, hc2, -⟩ := hv w (WFr.refl _ _)
  unfold maxLen at hc2
  have H := Lib.hid h
  have HV := Lib.hid hv
  clear h hv
  go_enter Tryz.func107, Tryz.ntmps107
  go_wp2
  go_loopw [8] (fun t W => ∃ k : Nat, t = .int .i64 (k : Int) ∧ k ≤ ls.length ∧ IsW W b bad (l ++ blobAll (ls.take k)) ∧ WFr b w W) (fun t _ => ls.length - (intOf t).toNat)
  case atStart => exact ⟨0, rfl, Nat.zero_le _, by simpa [blobAll] using H.out, WFr.refl _ _⟩
  case round =>
    obtain ⟨k, rfl, hk, hI, hF⟩ := hrel
    by_cases hlt : k < ls.length
    · have hku : k < us.length := by omega
      obtain ⟨bi, oi, rfl⟩ : ∃ bi oi, A = some (⟨bi, oi, none⟩ : Addr) := by
        obtain ⟨-, A', c', hv', -, -, hcs⟩ := HV.out _ hF
        obtain ⟨bi, oi, rfl, -⟩ := hcs (by omega)
        simp only [Value.slice.injEq] at hv'
        exact ⟨bi, oi, hv'.1⟩
      have hat : ∀ W, WFr b w W → W.cell? ⟨bi, oi + k, none⟩ = some us[k] ∧ Bts W us[k] ls[k] := fun W hW => by
        obtain ⟨-, A', c', hv', -, -, hcs⟩ := HV.out _ hW
        obtain ⟨b', o', rfl, hcs2⟩ := hcs (by omega)
        simp only [Value.slice.injEq, Option.some.injEq, Addr.mk.injEq] at hv'
        obtain ⟨⟨rfl, rfl, -⟩, -, -⟩ := hv'
        exact hcs2 k _ _ (by simp [hku]) (by simp [hlt])
      have HAT := Lib.hid hat
      clear hat
      obtain ⟨hcell, hu⟩ := HAT.out _ hF
      have HU := Lib.hid hu
      have hlen := blobAll_take ls (k + 1)
      have e2 : blobAll (ls.take (k + 1)) = blobAll (ls.take k) ++ (put ls[k].length ++ ls[k]) := by rw [take_snoc _ _ hlt, blobAll_snoc]
      rw [e2] at hlen
      simp only [List.length_append] at hlen
      have E2 := Lib.hid e2
      clear e2 hu
      generalize ls[k] = x at *
      generalize us[k] = u at *
      obtain ⟨Au, cu, rfl⟩ := HU.out.form
      go_wp2_with fail
      refine (number_any b _ _ _ _ hI (by simp; omega)).mono ?_
      rintro e w2 ⟨rfl, hI2, hF2⟩
      rw [okNum_nat _ (by omega), if_pos rfl, Int.toNat_natCast, Bool.not_true, Bool.or_false] at hI2
      have hF12 := hF.trans hF2
      have hu2 := (HAT.out _ hF12).2
      go_wp2_with fail
      refine (wWrite b _ _ x _ _ hI2 hu2 (by simp; omega)).mono ?_
      rintro e w3 ⟨r, rfl, hI3, hF3⟩
      go_wp2
      go_roundw
      case rel => exact ⟨k + 1, by go_num, by omega, by rw [E2.out]; simpa [List.append_assoc] using hI3, hF12.trans hF3⟩
      case measure => simp [intOf]; omega
    · obtain rfl : k = ls.length := by omega
      rw [List.take_length] at hI
      go_wp2
      go_end0
      exact ⟨rfl, hI, hF⟩

set_option maxRecDepth 100000 in
set_option maxHeartbeats 400000 in
theorem texts_any (b : Nat) (bad : Bool) (l : List UInt8) (ls : List (List UInt8)) (v : Value) (w : World) (hv : ∀ W, WFr b w W → Strs W v ls)
    (h : IsW w b bad l) (hlim : l.length + (blobAll ls).length + 9 ≤ 140737488355328) :
    Calls Tryz.prog 106 #[.pointer (some ⟨b, 0, none⟩), v] w fun e w' => e = .returned (.tuple #[]) ∧ IsW w' b bad (l ++ blobAll ls) ∧ WFr b w w' := by
  obtain ⟨A, c, rfl, hc1, hc2, -⟩ := hv w (WFr.refl _ _)
  unfold maxLen at hc2
  have H := Lib.hid h
  have HV := Lib.hid hv
  clear h hv
  go_enter Tryz.func106, Tryz.ntmps106
  go_wp2
  go_loopw [8] (fun t W => ∃ k : Nat, t = .int .i64 (k : Int) ∧ k ≤ ls.length ∧ IsW W b bad (l ++ blobAll (ls.take k)) ∧ WFr b w W) (fun t _ => ls.length - (intOf t).toNat)
  case atStart => exact ⟨0, rfl, Nat.zero_le _, by simpa [blobAll] using H.out, WFr.refl _ _⟩
  case round =>
    obtain ⟨k, rfl, hk, hI, hF⟩ := hrel
    by_cases hlt : k < ls.length
    · obtain ⟨A', c', hv', -, -, hcs⟩ := HV.out _ hF
      obtain ⟨bi, oi, rfl, hcs2⟩ := hcs (by omega)
      simp only [Value.slice.injEq] at hv'
      obtain ⟨rfl, -, rfl⟩ := hv'
      have hcell := hcs2 k ls[k] (by simp [hlt])
      have hlen := blobAll_take ls (k + 1)
      have e2 : blobAll (ls.take (k + 1)) = blobAll (ls.take k) ++ (put ls[k].length ++ ls[k]) := by rw [take_snoc _ _ hlt, blobAll_snoc]
      rw [e2] at hlen
      simp only [List.length_append] at hlen
      have E2 := Lib.hid e2
      clear e2 hcs hcs2
      generalize ls[k] = x at *
      have hsz : (⟨x.toArray⟩ : ByteArray).size = x.length := by simp [ByteArray.size]
      go_wp2_with fail
      refine (number_any b _ _ (x.length : Int) _ hI (by simp; omega)).mono ?_
      rintro e w2 ⟨rfl, hI2, hF2⟩
      rw [okNum_nat _ (by omega), if_pos rfl, Int.toNat_natCast, Bool.not_true, Bool.or_false] at hI2
      have hF12 := hF.trans hF2
      go_wp2_with fail
      refine (wString b _ _ x _ hI2 (by simp; omega)).mono ?_
      rintro e w3 ⟨r, rfl, hI3, hF3⟩
      go_wp2
      go_roundw
      case rel => exact ⟨k + 1, by go_num, by omega, by rw [E2.out]; simpa [List.append_assoc] using hI3, hF12.trans hF3⟩
      case measure => simp [intOf]; omega
    · obtain rfl : k = ls.length := by omega
      rw [List.take_length] at hI
      go_wp2
      go_end0
      exact ⟨rfl, hI, hF⟩

set_option maxRecDepth 100000 in
set_option maxHeartbeats 400000 in
theorem nums_framed (b : Nat) (bad : Bool) (l : List UInt8) (ns : List Int) (v : Value) (w : World) (hv : ∀ W, WFr b w W → Ints W v ns)
    (h : IsW w b bad l) (hlim : l.length + 9 * ns.length ≤ 140737488355328) :
    Calls Tryz.prog 108 #[.pointer (some ⟨b, 0, none⟩), v] w fun e w' => e = .returned (.tuple #[]) ∧ IsW w' b (bad || badAll ns) (l ++ putAll ns) ∧ WFr b w w' := by
  obtain ⟨A, c, rfl, hc1, hc2, -⟩ := hv w (WFr.refl _ _)
  unfold maxLen at hc2
  have H := Lib.hid h
  have HV := Lib.hid hv
  clear h hv
  go_enter Tryz.func108, Tryz.ntmps108
  go_wp2
  go_loopw [8] (fun t W => ∃ k : Nat, t = .int .i64 (k : Int) ∧ k ≤ ns.length ∧ IsW W b (bad || badAll (ns.take k)) (l ++ putAll (ns.take k)) ∧ WFr b w W) (fun t _ => ns.length - (intOf t).toNat)
  case atStart => exact ⟨0, rfl, Nat.zero_le _, by simpa [badAll, putAll] using H.out, WFr.refl _ _⟩
  case round =>
    obtain ⟨k, rfl, hk, hI, hF⟩ := hrel
    by_cases hlt : k < ns.length
    · obtain ⟨A', c', hv', -, -, hcs⟩ := HV.out _ hF
      obtain ⟨bi, oi, rfl, hcs2⟩ := hcs (by omega)
      simp only [Value.slice.injEq] at hv'
      obtain ⟨rfl, -, rfl⟩ := hv'
      have hc0 := hcs2 k ns[k] (by simp [hlt])
      have hlen := putAll_len (ns.take k)
      rw [List.length_take] at hlen
      have e1 : badAll (ns.take (k + 1)) = (badAll (ns.take k) || !okNum ns[k]) := by rw [take_snoc _ _ hlt, badAll_snoc]
      have e2 : putAll (ns.take (k + 1)) = putAll (ns.take k) ++ if okNum ns[k] then put ns[k].toNat else [] := by rw [take_snoc _ _ hlt, putAll_snoc]
      have E1 := Lib.hid e1
      have E2 := Lib.hid e2
      clear e1 e2 hcs hcs2
      generalize ns[k] = n at *
      go_wp2_with fail
      refine (number_any b _ _ _ _ hI (by simp; omega)).mono ?_
      rintro e w2 ⟨rfl, hI2, hF2⟩
      go_wp2
      go_roundw
      case rel => exact ⟨k + 1, by go_num, by omega, by rw [E1.out, E2.out, ← Bool.or_assoc, ← List.append_assoc]; exact hI2, hF.trans hF2⟩
      case measure => simp [intOf]; omega
    · obtain rfl : k = ns.length := by omega
      rw [List.take_length] at hI
      go_wp2
      go_end0
      exact ⟨rfl, hI, hF⟩
end Go.Proofs.YtmodolighoojoaaGreatDoor
