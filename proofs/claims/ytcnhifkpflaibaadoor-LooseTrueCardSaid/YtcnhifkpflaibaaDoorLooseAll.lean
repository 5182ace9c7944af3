/-
  The walk of List.
-/
import Derived.Test.YtcnhifkpflaibaaDoorLooseList
import Derived.Test.YtcnhifkpflaibaaDoorIdAll
namespace Go.Proofs.YtcnhifkpflaibaaDoor
open Go.RowKit Go.Maps

theorem list_names {S : DS} (h : Inv S) : ∀ x ∈ listS S, x.length ≤ 80 := by
  intro x hx
  unfold listS at hx
  split at hx
  · cases hx
  · obtain ⟨e, he, rfl⟩ := List.mem_map.1 hx
    exact may_le (h.now.named e he)
theorem list_len {S : DS} (h : Inv S) {k : Nat} (hf : Few S k) : (listS S).length ≤ k := by
  unfold listS
  split
  · exact Nat.zero_le _
  · unfold names
    rw [List.length_map]
    exact h.nowLen hf
theorem there_len {S : DS} {L : List Nm} : ∀ x ∈ L.filterMap (thereL sumF S), x.length = 32 := by
  intro x hx
  obtain ⟨s, _, h⟩ := List.mem_filterMap.1 hx
  unfold thereL at h
  split at h
  · cases h; exact unhexV_length _
  · cases h
theorem filterMap_take {L : List Nm} {i : Nat} (hi : i < L.length) (f : Nm → Option (List UInt8)) : (L.take (i + 1)).filterMap f = (L.take i).filterMap f ++ (match f (L.getD i default) with | none => [] | some y => [y]) := by
  rw [List.take_succ_eq_append_getElem hi, List.filterMap_append]
  congr 1
  have e : L.getD i default = L[i] := by simp [List.getD, hi]
  rw [e, List.filterMap_cons, List.filterMap_nil]
  cases f L[i] <;> rfl
section
variable {w W : World} {F : Nat → Prop} {db : Nat} {S : DS}
theorem there_no {e : Ending} {W' : World} (h : ThereIs w W F db S none e W') : ∃ id, e = .returned (.tuple #[.agg (idCells id), .bool false]) ∧ id.length = 32 ∧ Run w W' F db S ∧ Below W.heap.size W W' := by
  obtain ⟨id, q, h1, h2, h3, h4, h5⟩ := h
  cases q
  · exact ⟨id, h1, h2, h4, h5⟩
  · cases h3
theorem there_yes {e : Ending} {W' : World} {x : List UInt8} (h : ThereIs w W F db S (some x) e W') : e = .returned (.tuple #[.agg (idCells x), .bool true]) ∧ x.length = 32 ∧ Run w W' F db S ∧ Below W.heap.size W W' := by
  obtain ⟨id, q, h1, h2, h3, h4, h5⟩ := h
  cases q
  · cases h3
  · cases h3; exact ⟨h1, h2, h4, h5⟩
set_option maxRecDepth 100000 in
set_option maxHeartbeats 4000000 in
theorem listAll_any (R : Run w W F db S) (hT : Tables w) {k : Nat} (hf : Few S k) (hk : k ≤ 1000000) {M : List (List UInt8)} (hM : listL sumF S = M) :
    Calls Tryd.prog 18 #[Pt db] W fun e W' => ∃ a c, e = .returned (.slice a M.length c) ∧ IdsAt W' a M.length c M ∧ Run w W' F db S ∧ Below W.heap.size W W' := by
  have hb0 : Below W.heap.size W (W.alloc (.cells #[Pt db] 26)) := (Below.refl _ _).alloc (Nat.le_refl _) _
  have hg0 : (W.alloc (.cells #[Pt db] 26)).cell? ⟨W.heap.size, 0, none⟩ = some (Pt db) := by rw [World.cell?_alloc_new]; rfl
  obtain ⟨L, hL⟩ : ∃ L, listS S = L := ⟨_, rfl⟩
  have LS := Lib.hid (lo_list (R.below hb0) hf hk hL)
  have HT := Lib.hid hT
  have HN := Lib.hid (fun x (hx : x ∈ L) => list_names R.1.1 x (hL ▸ hx))
  have HLK := Lib.hid (show L.length ≤ 1000000 from by have := list_len R.1.1 hf; rw [hL] at this; omega)
  have HM := Lib.hid (show setF (L.filterMap (thereL sumF S)) = M from by rw [← hL]; exact hM)
  have HB0 := Lib.hid hb0
  have HG0 := Lib.hid hg0
  have HR := Lib.hid R
  have hlI : (L.length : Int) ≤ 1000000 := by have := HLK.out; omega
  clear hb0 R hT hf hk hL hM
  go_enter Tryd.func18, Tryd.ntmps18
  go_wp2_with (go_at_call 41; (with_reducible refine LS.out.mono ?_); rintro e w1 ⟨a1, c1, rfl, hA1, hr1, hn1, hb1⟩; have HA1 := Lib.hid hA1; have HB1 := Lib.hid hb1; clear hA1 hr1 hn1 hb1)
  have HBW := Lib.hid (HB0.out.trans (HB1.out.mono HB0.out.size))
  have HG1 := Lib.hid ((HB1.out.cell (World.block_lt_of_cell? _ _ HG0.out)).trans HG0.out)
  have HO := Lib.hid (OwnI.nil w1 w1.heap.size)
  have HBX := Lib.hid (Below.refl w1.heap.size w1)
  go_loopg [4, 13] L.length (fun g v4 v13 W2 => ∃ (i m : Nat) (a : Option Addr) (c : Nat), Below w1.heap.size w1 W2 ∧ v13 = .int .i64 i ∧ v4 = .slice a m c ∧ g + i = L.length ∧ Hid (OwnI W2 w1.heap.size (.slice a m c) ((L.take i).filterMap (thereL sumF S))))
  case atStart => exact ⟨0, 0, none, 0, HBX.out, rfl, rfl, rfl, Lib.hid (by simpa using HO.out)⟩
  case round =>
    obtain ⟨i, m, a, c, hbw, rfl, rfl, hg, HOW⟩ := hrel
    have HG := Lib.hid hg
    have HB := Lib.hid hbw
    have hi0 : (0 : Int) ≤ (i : Int) := by omega
    have hiI : (i : Int) ≤ (L.length : Int) := by omega
    by_cases hi : (i : Int) < (L.length : Int)
    · have hin : i < L.length := by omega
      have HI := Lib.hid hin
      obtain ⟨b, o, rfl⟩ := HA1.out.some_ (by omega)
      obtain ⟨y, hy⟩ : ∃ y, L.getD i default = y := ⟨_, rfl⟩
      have k1 : wr.cell? ⟨b, o + i, none⟩ = some (.string (strB y)) := by
        have := (HA1.out.below hbw).cell i hin
        rwa [hy] at this
      have HSP := Lib.hid (filterMap_take hin (thereL sumF S))
      have HY := Lib.hid (show y.length ≤ 80 from HN.out y (by rw [← hy]; simp [List.getD, hin]))
      have HRW := Lib.hid (HR.out.below (HBW.out.trans (hbw.mono HBW.out.size)))
      have TH := Lib.hid (fun o (ho : thereL sumF S y = o) => there_any (strB y) W.heap.size (by rw [strB_size]; have := HY.out; omega) HRW.out HT.out ((hbw.cell (World.block_lt_of_cell? _ _ HG1.out)).trans HG1.out) (o := o) (by rw [strB_list]; exact ho))
      have HML := Lib.hid (show m ≤ i by
        have h1 := HOW.out.isIds.1
        have h2 := List.length_filterMap_le (thereL sumF S) (L.take i)
        rw [List.length_take] at h2
        omega)
      rw [hy] at HSP
      clear hg hbw hin hy
      cases hth : thereL sumF S y with
      | none =>
        have TH0 := Lib.hid (TH.out none hth)
        rw [hth] at HSP
        clear hth TH
        go_wp2_with (first
          | (go_at_call 38; (with_reducible refine TH0.out.mono ?_); intro e w3 h3; obtain ⟨id, rfl, hid, hr3, hb3⟩ := there_no h3; have HID := Lib.hid hid; have HB3 := Lib.hid hb3; clear hid hr3 hb3 h3)
          | ((with_reducible show wpList _ _ _ (⟨some 7, _, _, _, _, _⟩ :: _) _ _); refine alloc_id rfl rfl ?_; intro w4 hid4 hb4 hs4; have HB4 := Lib.hid hb4; clear hb4 hs4)
          | (refine store_id rfl (.tmp 7) (.tmp 21) rfl _ _ id rfl rfl hid4 HID.out ?_; intro w5 hid5 hg5 hs5; have HI5 := Lib.hid hid5; have HB5 := Lib.hid ((HB3.out.trans (HB4.out.mono HB3.out.size)).grown hg5 (Nat.le_trans HB3.out.size HB4.out.size) (fun k hk => by cases hk; exact HB3.out.size)); clear hid5 hg5 hs5 hid4))
        have HNX : Hid (OwnI w5 w1.heap.size (.slice a m c) ((L.take (i + 1)).filterMap (thereL sumF S))) := Lib.hid (by
          rw [HSP.out]
          simpa using HOW.out.below HB5.out)
        go_roundg (gk - 1)
        case measure => have := HG.out; omega
        case rel => exact ⟨i + 1, m, a, c, HB.out.trans (HB5.out.mono HB.out.size), by go_num, rfl, by have := HG.out; omega, HNX⟩
      | some id =>
        have TH0 := Lib.hid (TH.out (some id) hth)
        rw [hth] at HSP
        clear hth TH
        have HSL := Lib.hid HOW.out.isIds.1
        have H48 := Lib.hid (show (((L.take i).filterMap (thereL sumF S)).length + 1) * 32 ≤ 140737488355328 by have := HSL.out; have := HML.out; have := HLK.out; have := HI.out; omega)
        go_wp2_with (first
          | (go_at_call 38; (with_reducible refine TH0.out.mono ?_); intro e w3 h3; obtain ⟨rfl, hid, hr3, hb3⟩ := there_yes h3; have HID := Lib.hid hid; have HB3 := Lib.hid hb3; clear hid hr3 hb3 h3)
          | ((with_reducible show wpList _ _ _ (⟨some 7, _, _, _, _, _⟩ :: _) _ _); refine alloc_id rfl rfl ?_; intro w4 hid4 hb4 hs4; have HB4 := Lib.hid hb4; clear hb4 hs4)
          | (refine store_id rfl (.tmp 7) (.tmp 21) rfl _ _ id rfl rfl hid4 HID.out ?_; intro w5 hid5 hg5 hs5; have hi5 := hid5; have HB5 := Lib.hid ((HB3.out.trans (HB4.out.mono HB3.out.size)).grown hg5 (Nat.le_trans HB3.out.size HB4.out.size) (fun k hk => by cases hk; exact HB3.out.size)); have HOWA := Lib.hid ((HOW.out.below HB5.out).alloc (.cells (idCells id) 35)); have HIDS := Lib.hid (ids_new w5 HID.out); have HBA := Lib.hid (show w1.heap.size ≤ (w5.alloc (.cells (idCells id) 35)).heap.size by have := HB5.out.size; have := HB.out.size; simp; omega); clear hid5 hg5 hs5 hid4)
          | (refine load_id rfl (.tmp 7) rfl _ _ rfl hi5 ?_)
          | (refine wl_one rfl _ rfl id HID.out rfl ?_)
          | (at_builtin; go_must (refine app_ids rfl (.tmp 24) (.tmp 26) rfl w1.heap.size _ _ rfl HOWA.out _ 1 1 [id] rfl HIDS.out H48.out HBA.out ?_); intro v' w6 hown6 hgr6))
        have HBW5 := Lib.hid (HB.out.trans (HB5.out.mono HB.out.size))
        obtain ⟨g, cv, hv, hgb, hown, hbw1⟩ := (more_of (base := w1.heap.size) hown6 (by simp) (HBW5.out.alloc HBW5.out.size _) hgr6 (fun k hk => (HOWA.out.lt k hk).1) HBA.out)
        have HV := Lib.hid (show ((L.take i).filterMap (thereL sumF S) ++ [id]).length = m + 1 by simp [HSL.out])
        rw [HV.out] at hv
        subst hv
        have HNX : Hid (OwnI w6 w1.heap.size (.slice (some ⟨g, 0, none⟩) (m + 1) cv) ((L.take (i + 1)).filterMap (thereL sumF S))) := Lib.hid (by
          rw [HSP.out]
          exact hown)
        go_roundg (gk - 1)
        case measure => have := HG.out; omega
        case rel => exact ⟨i + 1, m + 1, some ⟨g, 0, none⟩, cv, hbw1, by go_num, rfl, by have := HG.out; omega, HNX⟩
    · have HF : Hid (IdsAt wr a m c (L.filterMap (thereL sumF S))) := Lib.hid (by
        have h := HOW.out.isIds
        rwa [List.take_of_length_le (by omega)] at h)
      have HML := Lib.hid (show m ≤ 1000000000 by
        have h1 := HF.out.1
        have h2 := List.length_filterMap_le (thereL sumF S) L
        have := HLK.out
        omega)
      clear hg
      go_wp2_with (go_at_call 42; (with_reducible refine (set_any a m c _ wr HF.out HML.out).mono ?_); rintro e w7 ⟨a7, c7, rfl, hi7, hb7⟩; have HI7 := Lib.hid hi7; have HB7 := Lib.hid hb7; clear hi7 hb7)
      go_ret
      have hbf := (HBW.out.trans (HB.out.mono HBW.out.size)).trans (HB7.out.mono (Nat.le_trans HBW.out.size HB.out.size))
      have hi7 := HI7.out
      rw [HM.out] at hi7 ⊢
      exact ⟨a7, c7, rfl, hi7, HR.out.below hbf, hbf⟩
#print axioms listAll_any
end
end Go.Proofs.YtcnhifkpflaibaaDoor
