/-
  Doing the script gives the other text: the law walked.
-/
import Derived.Test.YthhhfonhcnkogaaDoorMyTurned
import Derived.Test.YthhhfonhcnkogaaDoorMyApply
namespace Go.Proofs.YthhhfonhcnkogaaDoor
open Go.RowKit My

theorem txt_append (a b : List Int) : txt (a ++ b) = txt a ++ txt b := by unfold txt; rw [List.map_append, textF_append]
theorem goV_ev : ∀ (l : List Er) (x y : List Int), applyR x l = some y → goV x (l.map ev) = some (txt y) := by
  intro l
  induction l with
  | nil =>
    intro x y h
    rw [applyR] at h
    split at h
    · rename_i h1
      obtain rfl := Option.some.inj h
      show (if x = [] then some [] else none) = _
      rw [if_pos h1]; rfl
    · cases h
  | cons e l ih =>
    intro x y h
    rw [applyR] at h
    split at h
    · rename_i h1
      obtain ⟨q, hq, rfl⟩ := Option.map_eq_some_iff.1 h
      have := ih _ _ hq
      show (if 0 ≤ (e.k : Int) ∧ (e.k : Int) ≤ x.length ∧ 0 ≤ (e.d : Int) ∧ (e.d : Int) ≤ x.length - (e.k : Int) then (goV (x.drop ((e.k : Int) + (e.d : Int)).toNat) (l.map ev)).map fun r => txt (x.take (e.k : Int).toNat) ++ txt e.a ++ r else none) = _
      rw [if_pos (by omega), show ((e.k : Int) + (e.d : Int)).toNat = e.k + e.d by omega, this, Int.toNat_natCast, txt_append, txt_append]
      rfl
    · cases h
theorem chk_cnt {l : List UInt8} {n : Nat} (h : cntE l = (n, 0)) : chkE l = (0, 0) := by
  rcases runesF_cases l with ⟨L, hL⟩ | ⟨p, hL⟩
  · exact chkE_some hL
  · rw [cntE_none hL] at h; simp at h
theorem txt_zs {b : List UInt8} {y : List Nat} {q : Nat} (hy : runesF b = (some y, q)) : txt (zs y) = b := by
  rw [(runesF_some hy).2.1]
  unfold txt
  rw [show (zs y).map Int.toNat = y from List.ext_getElem (by simp [zs]) fun i h1 h2 => by simp [zs]]
/-- Either both are texts and the script gives the other, or there is no script. -/
theorem back_facts (a b : List UInt8) (hl : a.length ≤ 4096 ∧ b.length ≤ 4096) : (∃ (x : List Nat) (p : Nat), runesF a = (some x, p) ∧ (diffF a b).2 = 0 ∧ goV (zs x) (diffF a b).1 = some b ∧ Mild (diffF a b).1 ∧ ∀ e ∈ (diffF a b).1, chkE e.s = (0, 0)) ∨ diffF a b = ([], 5) := by
  rcases runesF_cases a with ⟨x, hx⟩ | ⟨p, hx⟩
  · rcases runesF_cases b with ⟨y, hy⟩ | ⟨q, hy⟩
    · refine .inl ⟨x, _, hx, ?_, ?_, mild_diff a b hl, ?_⟩
      · rw [diff_some hx hy hl]
      · rw [diff_some hx hy hl, goV_ev _ _ _ (edits_apply (zs x) (zs y)), txt_zs hy]
      · rw [diff_some hx hy hl]
        intro e he
        obtain ⟨r, hr, rfl⟩ := List.mem_map.1 he
        exact chk_cnt (cnt_txt ((edits_bound (zs x) (zs y) (ok_zs (runesF_some hy).1)).2 r hr).2.2)
    · exact .inr (diff_none (.inr (by rw [cntE_none hy])))
  · exact .inr (diff_none (.inl (by rw [cntE_none hx])))
set_option maxRecDepth 100000 in
set_option maxHeartbeats 4000000 in
theorem back_any (s t : ByteArray) (w : World) (hT : Tabs w) (hs : s.size ≤ 140737488355328) (ht : t.size ≤ 140737488355328) : Calls Tryd.prog 6 #[.string s, .string t] w (BoolIs true w) := by
  have HT := Lib.hid hT
  have hsI : (s.size : Int) ≤ 140737488355328 := by omega
  have htI : (t.size : Int) ≤ 140737488355328 := by omega
  by_cases h1 : 600 < s.size
  · have z1 : decide (600 < s.size) = true := by simpa using h1
    have z2 : decide ((600 : Int) < (s.size : Int)) = true := by simp; omega
    clear h1 hT hs ht
    go_enter Tryd.func6, Tryd.ntmps6
    go_wp2
    go_ret
    exact ⟨rfl, Below.refl _ _⟩
  · have z1 : decide (600 < s.size) = false := by simpa using h1
    have z2 : decide ((600 : Int) < (s.size : Int)) = false := by simp; omega
    by_cases h2 : 600 < t.size
    · have z3 : decide (600 < t.size) = true := by simpa using h2
      have z4 : decide ((600 : Int) < (t.size : Int)) = true := by simp; omega
      clear h1 h2 hT hs ht
      go_enter Tryd.func6, Tryd.ntmps6
      go_wp2
      go_ret
      exact ⟨rfl, Below.refl _ _⟩
    · have z3 : decide (600 < t.size) = false := by simpa using h2
      have z4 : decide ((600 : Int) < (t.size : Int)) = false := by simp; omega
      have hls : s.data.toList.length = s.size := by rw [Array.length_toList]; rfl
      have hlt : t.data.toList.length = t.size := by rw [Array.length_toList]; rfl
      have D1 := Lib.hid (diff_any s t w (by omega) (by omega) hT)
      have AW := Lib.hid (fun W (hb : Below w.heap.size w W) => awake_any W (hT.below hb))
      have HS := Lib.hid (show s.size ≤ 20000000 by omega)
      have TT := Lib.hid (strB_of t)
      have TF := back_facts s.data.toList t.data.toList (by omega)
      obtain ⟨d1, hd1⟩ : ∃ d, diffF s.data.toList t.data.toList = d := ⟨_, rfl⟩
      rw [hd1] at D1 TF
      obtain ⟨L1, e1⟩ := d1
      clear h1 h2 hT hs ht hls hlt hd1
      rcases TF with ⟨x, p, hx, he, hr, hm, hk⟩ | hd
      · simp only at he hr hm hk
        subst he
        have HX := Lib.hid hx
        have HR := Lib.hid hr
        have HM := Lib.hid hm
        have HK := Lib.hid hk
        clear hx hr hm hk
        go_enter Tryd.func6, Tryd.ntmps6
        go_wp2_with (first
          | (go_at_call 13; (refine D1.out.mono ?_); rintro en w1 ⟨a1, c1, rfl, ho1, hb1⟩; have HB1 := Lib.hid hb1; have O1 := Lib.hid ho1; clear ho1 hb1)
          | (go_at_call 16; (refine (apply_yes s a1 _ c1 L1 x p _ w1 HS.out HX.out O1.out HM.out HK.out HR.out (HT.out.below HB1.out)).mono ?_); rintro en w2 ⟨rfl, hb2⟩; have HB2 := Lib.hid (HB1.out.trans (hb2.mono HB1.out.size)); rw [TT.out]; clear hb2)
          | (go_at_call 12; (refine (AW.out _ HB2.out).mono ?_); rintro en w7 ⟨rfl, hb7⟩; have HB7 := Lib.hid (HB2.out.trans (hb7.mono HB2.out.size)); clear hb7))
        go_ret
        exact ⟨rfl, HB7.out⟩
      · obtain ⟨rfl, rfl⟩ := Prod.mk.inj hd
        clear hd
        go_enter Tryd.func6, Tryd.ntmps6
        go_wp2_with (first
          | (go_at_call 13; (refine D1.out.mono ?_); rintro en w1 ⟨a1, c1, rfl, ho1, hb1⟩; have HB1 := Lib.hid hb1; clear ho1 hb1)
          | (go_at_call 12; (refine (AW.out _ HB1.out).mono ?_); rintro en w7 ⟨rfl, hb7⟩; have HB7 := Lib.hid (HB1.out.trans (hb7.mono HB1.out.size)); clear hb7))
        go_ret
        exact ⟨rfl, HB7.out⟩
#print axioms back_any
end Go.Proofs.YthhhfonhcnkogaaDoor
