/-
  Merged: MyLawMath, MyTurned, MyApply, MyBack, MyApplyNo, MyRefApply, MyRefCost, MyApplies.
-/
import Derived.Test.YtbfaaphijgmabaaDoorMyAwake
import Derived.Test.YtbfaaphijgmabaaDoorUtfText
import Derived.BigQuiet
import Derived.Test.YtbfaaphijgmabaaDoorUtfRefRunes
namespace Go.Proofs.YtbfaaphijgmabaaDoor
open Go.RowKit My

theorem eds_bound (ms : List Int) : ∀ (tg : List Int) (c : Er), (eds ms tg c).length ≤ ms.length + 1 ∧ ∀ x ∈ eds ms tg c, x.d ≤ c.d + ms.length ∧ x.a.length ≤ c.a.length + ms.length ∧ (OkTo tg tg.length → OkTo c.a c.a.length → notDrop ms ≤ tg.length → OkTo x.a x.a.length) := by
  induction ms with
  | nil => intro tg c; rw [eds]; exact ⟨by simp, fun x hx => by simp only [List.mem_cons, List.not_mem_nil, or_false] at hx; subst hx; exact ⟨by simp, by simp, fun _ h _ => h⟩⟩
  | cons z ms ih =>
    intro tg c
    have tl : ∀ {t : List Int}, OkTo t t.length → OkTo t.tail t.tail.length := fun {t} h => by
      cases t with
      | nil => exact h
      | cons u r => exact h.tail
    rw [eds]
    split
    · rename_i hz
      obtain ⟨h1, h2⟩ := ih tg ⟨c.k, c.d + 1, c.a⟩
      refine ⟨by simp only [List.length_cons]; omega, fun x hx => ?_⟩
      obtain ⟨b1, b2, b3⟩ := h2 x hx
      simp only at b1 b2 b3
      exact ⟨by simp only [List.length_cons]; omega, by simp only [List.length_cons]; omega, fun p q r => b3 p q (by simpa [notDrop, hz] using r)⟩
    · rename_i hz
      split
      · obtain ⟨h1, h2⟩ := ih tg.tail ⟨c.k, c.d, c.a ++ [tg.headD 0]⟩
        refine ⟨by simp only [List.length_cons]; omega, fun x hx => ?_⟩
        obtain ⟨b1, b2, b3⟩ := h2 x hx
        simp only [List.length_append, List.length_cons, List.length_nil] at b1 b2
        refine ⟨by simp only [List.length_cons]; omega, by simp only [List.length_cons]; omega, fun p q r => ?_⟩
        have hr : 1 + notDrop ms ≤ tg.length := by simpa [notDrop, hz] using r
        refine b3 (tl p) (q.snoc ?_) (by rw [List.length_tail]; omega)
        cases tg with
        | nil => simp at hr
        | cons u t => exact by have := p 0 (by simp); simpa using this
      · split
        · obtain ⟨h1, h2⟩ := ih tg.tail ⟨1, 0, []⟩
          refine ⟨by simp only [List.length_cons]; omega, fun x hx => ?_⟩
          rcases List.mem_cons.1 hx with rfl | hx
          · exact ⟨by simp, by simp, fun _ q _ => q⟩
          · obtain ⟨b1, b2, b3⟩ := h2 x hx
            simp only [List.length_nil] at b1 b2 b3
            refine ⟨by simp only [List.length_cons]; omega, by simp only [List.length_cons]; omega, fun p q r => b3 (tl p) (OkTo.zero _) ?_⟩
            have hr : 1 + notDrop ms ≤ tg.length := by simpa [notDrop, hz] using r
            rw [List.length_tail]; omega
        · obtain ⟨h1, h2⟩ := ih tg.tail ⟨c.k + 1, c.d, c.a⟩
          refine ⟨by simp only [List.length_cons]; omega, fun x hx => ?_⟩
          obtain ⟨b1, b2, b3⟩ := h2 x hx
          simp only at b1 b2 b3
          refine ⟨by simp only [List.length_cons]; omega, by simp only [List.length_cons]; omega, fun p q r => b3 (tl p) q ?_⟩
          have hr : 1 + notDrop ms ≤ tg.length := by simpa [notDrop, hz] using r
          rw [List.length_tail]; omega
theorem edits_bound (x y : List Int) (hy : OkTo y y.length) : (edits (scr x y) y).length ≤ x.length + y.length + 1 ∧ ∀ e ∈ edits (scr x y) y, e.d ≤ x.length + y.length ∧ e.a.length ≤ x.length + y.length ∧ OkTo e.a e.a.length := by
  have hl : (scr x y).length ≤ x.length + y.length := mv_len (E := eq2 x y) _ x.length y.length (Nat.le_refl _)
  obtain ⟨h1, h2⟩ := eds_bound (scr x y) y ⟨0, 0, []⟩
  unfold edits
  split
  · exact ⟨by simp, fun e he => by simp at he⟩
  · refine ⟨by omega, fun e he => ?_⟩
    obtain ⟨b1, b2, b3⟩ := h2 e he
    simp only [List.length_nil] at b1 b2
    exact ⟨by omega, by omega, b3 hy (OkTo.zero _) (Nat.le_of_eq (scr_facts _ x y (Nat.le_refl _)).2)⟩
theorem zs_of {L : List Int} (h : OkTo L L.length) : ∃ M, zs M = L ∧ (∀ n, n ∈ M → mayF n = true) := by
  refine ⟨L.map Int.toNat, ?_, fun n hn => ?_⟩
  · refine List.ext_getElem (by simp [zs]) fun i h1 h2 => ?_
    have := h i h2
    obtain ⟨k, hk, _⟩ := valid_of _ this
    have e : L[i] = (k : Int) := by simpa [h2] using hk
    simp [zs, e]
  · obtain ⟨z, hz, rfl⟩ := List.mem_map.1 hn
    obtain ⟨i, hi, rfl⟩ := List.getElem_of_mem hz
    have := h i hi
    obtain ⟨k, hk, hm⟩ := valid_of _ this
    have e : L[i] = (k : Int) := by simpa [hi] using hk
    rw [e]; exact hm
theorem cnt_txt {L : List Int} (h : OkTo L L.length) : cntE (txt L) = (L.length, 0) := by
  obtain ⟨M, rfl, hM⟩ := zs_of h
  have e : txt (zs M) = textF M := by
    unfold txt
    rw [show (zs M).map Int.toNat = M from List.ext_getElem (by simp [zs]) fun i h1 h2 => by simp [zs]]
  rw [e, cntE_some (runesF_text hM), zs_length]
theorem cost_ev (l : List Er) (h : ∀ e ∈ l, OkTo e.a e.a.length) : costV (l.map ev) = costR l := by
  induction l with
  | nil => rfl
  | cons e l ih =>
    have h1 := ih (fun x hx => h x (List.mem_cons_of_mem _ hx))
    have h2 := cnt_txt (h e (by simp))
    simp only [List.map_cons, costV, costR, h1]
    show posI (e.d : Int) + ((cntE (txt e.a)).1 : Int) + _ = _
    rw [h2]
    unfold posI
    rw [if_neg (by omega)]
    omega
theorem mild_ev (x y : List Int) (hy : OkTo y y.length) (hl : x.length + y.length ≤ 8192) : Mild ((edits (scr x y) y).map ev) := by
  obtain ⟨h1, h2⟩ := edits_bound x y hy
  refine ⟨by rw [List.length_map]; omega, fun e he => ?_, fun e he => ?_⟩
  · obtain ⟨r, hr, rfl⟩ := List.mem_map.1 he
    have := (h2 r hr).1
    show (r.d : Int) ≤ _
    omega
  · obtain ⟨r, hr, rfl⟩ := List.mem_map.1 he
    have := (h2 r hr).2.1
    have h3 := txt_le r.a
    show (txt r.a).length ≤ _
    omega
theorem cost_edits (x y : List Int) (hy : OkTo y y.length) : costV ((edits (scr x y) y).map ev) = dist x y := by
  rw [cost_ev _ (fun e he => ((edits_bound x y hy).2 e he).2.2), edits_cost]
theorem diff_some {a b : List UInt8} {x y : List Nat} {p q : Nat} (hx : runesF a = (some x, p)) (hy : runesF b = (some y, q)) (hl : a.length ≤ 4096 ∧ b.length ≤ 4096) : diffF a b = ((edits (scr (zs x) (zs y)) (zs y)).map ev, 0) := by
  unfold diffF
  rw [hx, hy]
  have h1 := runesF_len hx
  have h2 := runesF_len hy
  exact if_neg (by omega)
theorem diff_none {a b : List UInt8} (h : (cntE a).2 = 5 ∨ (cntE b).2 = 5) : diffF a b = ([], 5) := by
  unfold diffF
  rcases runesF_cases a with ⟨x, hx⟩ | ⟨p, hx⟩
  · rcases runesF_cases b with ⟨y, hy⟩ | ⟨q, hy⟩
    · rw [cntE_some hx, cntE_some hy] at h; simp at h
    · rw [hx, hy]
  · rw [hx]
#print axioms cost_edits
end Go.Proofs.YtbfaaphijgmabaaDoor

namespace Go.Proofs.YtbfaaphijgmabaaDoor
open Go.RowKit My

theorem cost_diff {a b : List UInt8} {x y : List Nat} {p q : Nat} (hx : runesF a = (some x, p)) (hy : runesF b = (some y, q)) (hl : a.length ≤ 4096 ∧ b.length ≤ 4096) : costV (diffF a b).1 = dist (zs x) (zs y) ∧ Mild (diffF a b).1 ∧ (diffF a b).2 = 0 := by
  have h1 := runesF_len hx
  have h2 := runesF_len hy
  rw [diff_some hx hy hl]
  exact ⟨cost_edits _ _ (ok_zs (runesF_some hy).1), mild_ev _ _ (ok_zs (runesF_some hy).1) (by rw [zs_length, zs_length]; omega), rfl⟩
theorem mild_diff (a b : List UInt8) (hl : a.length ≤ 4096 ∧ b.length ≤ 4096) : Mild (diffF a b).1 := by
  rcases runesF_cases a with ⟨x, hx⟩ | ⟨p, hx⟩
  · rcases runesF_cases b with ⟨y, hy⟩ | ⟨q, hy⟩
    · exact (cost_diff hx hy hl).2.1
    · rw [diff_none (.inr (by rw [cntE_none hy]))]; exact ⟨by simp, fun x hx => by simp at hx, fun x hx => by simp at hx⟩
  · rw [diff_none (.inl (by rw [cntE_none hx]))]; exact ⟨by simp, fun x hx => by simp at hx, fun x hx => by simp at hx⟩
/-- What both ways round have in common. -/
theorem turned_facts (a b : List UInt8) (hl : a.length ≤ 4096 ∧ b.length ≤ 4096) : (diffF a b).2 = (diffF b a).2 ∧ costV (diffF a b).1 = costV (diffF b a).1 ∧ (diffF a b).2 ≤ 5 := by
  rcases runesF_cases a with ⟨x, hx⟩ | ⟨p, hx⟩
  · rcases runesF_cases b with ⟨y, hy⟩ | ⟨q, hy⟩
    · obtain ⟨c1, _, e1⟩ := cost_diff hx hy hl
      obtain ⟨c2, _, e2⟩ := cost_diff hy hx ⟨hl.2, hl.1⟩
      rw [c1, c2, e1, e2]
      exact ⟨rfl, by rw [dist_symm _ _ _ (Nat.le_refl _)], by omega⟩
    · rw [diff_none (a := a) (b := b) (.inr (by rw [cntE_none hy])), diff_none (a := b) (b := a) (.inl (by rw [cntE_none hy]))]; exact ⟨rfl, rfl, by decide⟩
  · rw [diff_none (a := a) (b := b) (.inl (by rw [cntE_none hx])), diff_none (a := b) (b := a) (.inr (by rw [cntE_none hx]))]; exact ⟨rfl, rfl, by decide⟩
theorem same_facts (a : List UInt8) (hl : a.length ≤ 4096) : ((cntE a).2 = 5 ∧ diffF a a = ([], 5)) ∨ (∃ n, cntE a = (n, 0) ∧ n ≤ 4096 ∧ diffF a a = (if n = 0 then [] else [⟨(n : Int), 0, []⟩], 0)) := by
  rcases runesF_cases a with ⟨x, hx⟩ | ⟨p, hx⟩
  · refine .inr ⟨x.length, cntE_some hx, by have := runesF_len hx; omega, ?_⟩
    rw [diff_some hx hx ⟨hl, hl⟩, edits_same]
    cases x with
    | nil => rfl
    | cons u x =>
      rw [if_neg (by simp [zs]), if_neg (by simp)]
      show ([ev ⟨(zs (u :: x)).length, 0, []⟩], 0) = _
      rw [zs_length]; rfl
  · exact .inl ⟨by rw [cntE_none hx], diff_none (.inl (by rw [cntE_none hx]))⟩
theorem ed_one {w : World} {a : Option Addr} {c : Nat} {x : EdV} (h : AtG edK w a 1 c [x]) : ∃ b off, a = some ⟨b, off, none⟩ ∧ w.cell? ⟨b, off, none⟩ = some (.int .i64 x.k) ∧ w.cell? ⟨b, off + 1, none⟩ = some (.int .i64 x.d) ∧ w.cell? ⟨b, off + 2, none⟩ = some (.string (strB x.s)) := by
  obtain ⟨b, off, rfl⟩ := h.some_ (by decide)
  have hx := h.at_ 0 (by decide)
  have e : off + 0 * edK.k = off := by rw [Nat.zero_mul, Nat.add_zero]
  rw [e] at hx
  exact ⟨b, off, rfl, hx 0 (.int .i64 x.k) rfl, hx 1 (.int .i64 x.d) rfl, hx 2 (.string (strB x.s)) rfl⟩
set_option maxRecDepth 100000 in
set_option maxHeartbeats 4000000 in
theorem turned_any (s t : ByteArray) (w : World) (hT : Tabs w) (hs : s.size ≤ 140737488355328) (ht : t.size ≤ 140737488355328) : Calls Tryd.prog 8 #[.string s, .string t] w (BoolIs true w) := by
  have HT := Lib.hid hT
  have hsI : (s.size : Int) ≤ 140737488355328 := by omega
  have htI : (t.size : Int) ≤ 140737488355328 := by omega
  by_cases h1 : 600 < s.size
  · have z1 : decide (600 < s.size) = true := by simpa using h1
    have z2 : decide ((600 : Int) < (s.size : Int)) = true := by simp; omega
    clear h1 hT hs ht
    go_enter Tryd.func8, Tryd.ntmps8
    go_wp2
    go_ret
    exact ⟨rfl, Below.refl _ _⟩
  · have z1 : decide (600 < s.size) = false := by simpa using h1
    have z2 : decide ((600 : Int) < (s.size : Int)) = false := by simp; omega
    by_cases h2 : 600 < t.size
    · have z3 : decide (600 < t.size) = true := by simpa using h2
      have z4 : decide ((600 : Int) < (t.size : Int)) = true := by simp; omega
      clear h1 h2 hT hs ht
      go_enter Tryd.func8, Tryd.ntmps8
      go_wp2
      go_ret
      exact ⟨rfl, Below.refl _ _⟩
    · have z3 : decide (600 < t.size) = false := by simpa using h2
      have z4 : decide ((600 : Int) < (t.size : Int)) = false := by simp; omega
      have hls : s.data.toList.length = s.size := by rw [Array.length_toList]; rfl
      have hlt : t.data.toList.length = t.size := by rw [Array.length_toList]; rfl
      have D1 := Lib.hid (diff_any s t w (by omega) (by omega) hT)
      have D2 := Lib.hid (fun W (hb : Below w.heap.size w W) => diff_any t s W (by omega) (by omega) (hT.below hb))
      have D3 := Lib.hid (fun W (hb : Below w.heap.size w W) => diff_any s s W (by omega) (by omega) (hT.below hb))
      have CT := Lib.hid (fun W (hb : Below w.heap.size w W) => count_any s W (by omega) (hT.below hb))
      have AW := Lib.hid (fun W (hb : Below w.heap.size w W) => awake_any W (hT.below hb))
      have TF := turned_facts s.data.toList t.data.toList (by omega)
      have SF := same_facts s.data.toList (by omega)
      have M1 := Lib.hid (mild_diff s.data.toList t.data.toList (by omega))
      have M2 := Lib.hid (mild_diff t.data.toList s.data.toList (by omega))
      obtain ⟨d1, hd1⟩ : ∃ d, diffF s.data.toList t.data.toList = d := ⟨_, rfl⟩
      obtain ⟨d2, hd2⟩ : ∃ d, diffF t.data.toList s.data.toList = d := ⟨_, rfl⟩
      rw [hd1] at D1 TF M1
      rw [hd2] at D2 TF M2
      obtain ⟨L1, e1⟩ := d1
      obtain ⟨L2, e2⟩ := d2
      simp only at TF
      obtain ⟨rfl, hcc, he5⟩ := TF
      obtain ⟨cc, hc1⟩ : ∃ c, costV L1 = c := ⟨_, rfl⟩
      have HC1 := Lib.hid hc1
      have HC2 := Lib.hid (hcc.symm.trans hc1)
      have heI : (e1 : Int) ≤ 5 := by omega
      have he0 : (0 : Int) ≤ (e1 : Int) := by omega
      clear h1 h2 hT hs ht hls hlt hd1 hd2 hcc hc1 he5
      rcases SF with ⟨hc5, hdd⟩ | ⟨n, hcn, hn4, hdd⟩
      · have hcs : cntE s.data.toList = ((cntE s.data.toList).1, 5) := by rw [← hc5]
        obtain ⟨k, hk⟩ : ∃ k, (cntE s.data.toList).1 = k := ⟨_, rfl⟩
        rw [hcs, hk] at CT
        rw [hdd] at D3
        clear hc5 hdd hcs hk
        go_enter Tryd.func8, Tryd.ntmps8
        go_wp2_with (first
          | (go_at_call 13; have Q3 := Q2; (refine (D3.out _ HB2.out).mono ?_); rintro en w3 ⟨a3, c3, rfl, ho3, hb3⟩; have HB3 := Lib.hid (HB2.out.trans (hb3.mono HB2.out.size)); have O1c := Lib.hid (O1b.out.below hb3); have O2b := Lib.hid (O2.out.below hb3); have O3 := Lib.hid ho3; clear ho3 hb3)
          | (go_at_call 13; have Q1 := Q0; (refine (D2.out _ HB1.out).mono ?_); rintro en w2 ⟨a2, c2, rfl, ho2, hb2⟩; have HB2 := Lib.hid (HB1.out.trans (hb2.mono HB1.out.size)); have O1b := Lib.hid (O1.out.below hb2); have O2 := Lib.hid ho2; have Q2 := trivial; clear ho2 hb2)
          | (go_at_call 13; (refine D1.out.mono ?_); rintro en w1 ⟨a1, c1, rfl, ho1, hb1⟩; have HB1 := Lib.hid hb1; have O1 := Lib.hid ho1; have Q0 := trivial; clear ho1 hb1)
          | (go_at_call 18; have Q5 := Q4; (refine (cost_any a2 _ c2 L2 _ O2c.out M2.out (HT.out.below HB4.out)).mono ?_); rintro en w5 ⟨he6, hb5⟩; rw [HC2.out] at he6; subst he6; have HB5 := Lib.hid (HB4.out.trans (hb5.mono HB4.out.size)); have O3c := Lib.hid (O3b.out.below hb5); clear hb5)
          | (go_at_call 18; (refine (cost_any a1 _ c1 L1 _ O1c.out M1.out (HT.out.below HB3.out)).mono ?_); rintro en w4 ⟨he6, hb4⟩; rw [HC1.out] at he6; subst he6; have HB4 := Lib.hid (HB3.out.trans (hb4.mono HB3.out.size)); have O2c := Lib.hid (O2b.out.below hb4); have O3b := Lib.hid (O3.out.below hb4); have Q4 := trivial; clear hb4)
          | (go_at_call 22; (refine (CT.out _ HB5.out).mono ?_); rintro en w6 ⟨rfl, hb6⟩; have HB6 := Lib.hid (HB5.out.trans (hb6.mono HB5.out.size)); have O3d := Lib.hid (O3c.out.below hb6); clear hb6)
          | (go_at_call 12; (refine (AW.out _ HB6.out).mono ?_); rintro en w7 ⟨rfl, hb7⟩; have HB7 := Lib.hid (HB6.out.trans (hb7.mono HB6.out.size)); clear hb7))
        go_ret
        exact ⟨rfl, HB7.out⟩
      · have hnI : (n : Int) ≤ 4096 := by omega
        have hn0I : (0 : Int) ≤ (n : Int) := by omega
        rw [hcn] at CT
        by_cases hn : n = 0
        · rw [if_pos hn] at hdd
          rw [hdd] at D3
          have y1 : (n == 0) = true := by simpa using hn
          have y2 : ((n : Int) == 0) = true := by rw [nat_zero]; exact y1
          clear hcn hdd hn
          go_enter Tryd.func8, Tryd.ntmps8
          go_wp2_with (first
            | (go_at_call 13; have Q3 := Q2; (refine (D3.out _ HB2.out).mono ?_); rintro en w3 ⟨a3, c3, rfl, ho3, hb3⟩; have HB3 := Lib.hid (HB2.out.trans (hb3.mono HB2.out.size)); have O1c := Lib.hid (O1b.out.below hb3); have O2b := Lib.hid (O2.out.below hb3); have O3 := Lib.hid ho3; clear ho3 hb3)
            | (go_at_call 13; have Q1 := Q0; (refine (D2.out _ HB1.out).mono ?_); rintro en w2 ⟨a2, c2, rfl, ho2, hb2⟩; have HB2 := Lib.hid (HB1.out.trans (hb2.mono HB1.out.size)); have O1b := Lib.hid (O1.out.below hb2); have O2 := Lib.hid ho2; have Q2 := trivial; clear ho2 hb2)
            | (go_at_call 13; (refine D1.out.mono ?_); rintro en w1 ⟨a1, c1, rfl, ho1, hb1⟩; have HB1 := Lib.hid hb1; have O1 := Lib.hid ho1; have Q0 := trivial; clear ho1 hb1)
            | (go_at_call 18; have Q5 := Q4; (refine (cost_any a2 _ c2 L2 _ O2c.out M2.out (HT.out.below HB4.out)).mono ?_); rintro en w5 ⟨he6, hb5⟩; rw [HC2.out] at he6; subst he6; have HB5 := Lib.hid (HB4.out.trans (hb5.mono HB4.out.size)); have O3c := Lib.hid (O3b.out.below hb5); clear hb5)
            | (go_at_call 18; (refine (cost_any a1 _ c1 L1 _ O1c.out M1.out (HT.out.below HB3.out)).mono ?_); rintro en w4 ⟨he6, hb4⟩; rw [HC1.out] at he6; subst he6; have HB4 := Lib.hid (HB3.out.trans (hb4.mono HB3.out.size)); have O2c := Lib.hid (O2b.out.below hb4); have O3b := Lib.hid (O3.out.below hb4); have Q4 := trivial; clear hb4)
            | (go_at_call 22; (refine (CT.out _ HB5.out).mono ?_); rintro en w6 ⟨rfl, hb6⟩; have HB6 := Lib.hid (HB5.out.trans (hb6.mono HB5.out.size)); have O3d := Lib.hid (O3c.out.below hb6); clear hb6)
            | (go_at_call 12; (refine (AW.out _ HB6.out).mono ?_); rintro en w7 ⟨rfl, hb7⟩; have HB7 := Lib.hid (HB6.out.trans (hb7.mono HB6.out.size)); clear hb7))
          go_ret
          exact ⟨rfl, HB7.out⟩
        · rw [if_neg hn] at hdd
          rw [hdd] at D3
          have y1 : (n == 0) = false := by simpa using hn
          have y2 : ((n : Int) == 0) = false := by rw [nat_zero]; exact y1
          clear hcn hdd hn
          go_enter Tryd.func8, Tryd.ntmps8
          go_wp2_with (first
            | (go_at_call 13; have Q3 := Q2; (refine (D3.out _ HB2.out).mono ?_); rintro en w3 ⟨a3, c3, rfl, ho3, hb3⟩; have HB3 := Lib.hid (HB2.out.trans (hb3.mono HB2.out.size)); have O1c := Lib.hid (O1b.out.below hb3); have O2b := Lib.hid (O2.out.below hb3); have O3 := Lib.hid ho3; clear ho3 hb3)
            | (go_at_call 13; have Q1 := Q0; (refine (D2.out _ HB1.out).mono ?_); rintro en w2 ⟨a2, c2, rfl, ho2, hb2⟩; have HB2 := Lib.hid (HB1.out.trans (hb2.mono HB1.out.size)); have O1b := Lib.hid (O1.out.below hb2); have O2 := Lib.hid ho2; have Q2 := trivial; clear ho2 hb2)
            | (go_at_call 13; (refine D1.out.mono ?_); rintro en w1 ⟨a1, c1, rfl, ho1, hb1⟩; have HB1 := Lib.hid hb1; have O1 := Lib.hid ho1; have Q0 := trivial; clear ho1 hb1)
            | (go_at_call 18; have Q5 := Q4; (refine (cost_any a2 _ c2 L2 _ O2c.out M2.out (HT.out.below HB4.out)).mono ?_); rintro en w5 ⟨he6, hb5⟩; rw [HC2.out] at he6; subst he6; have HB5 := Lib.hid (HB4.out.trans (hb5.mono HB4.out.size)); have O3c := Lib.hid (O3b.out.below hb5); clear hb5)
            | (go_at_call 18; (refine (cost_any a1 _ c1 L1 _ O1c.out M1.out (HT.out.below HB3.out)).mono ?_); rintro en w4 ⟨he6, hb4⟩; rw [HC1.out] at he6; subst he6; have HB4 := Lib.hid (HB3.out.trans (hb4.mono HB3.out.size)); have O2c := Lib.hid (O2b.out.below hb4); have O3b := Lib.hid (O3.out.below hb4); have Q4 := trivial; clear hb4)
            | (go_at_call 22; (refine (CT.out _ HB5.out).mono ?_); rintro en w6 ⟨rfl, hb6⟩; have HB6 := Lib.hid (HB5.out.trans (hb6.mono HB5.out.size)); have O3d := Lib.hid (O3c.out.below hb6); obtain ⟨b3, o3, h3, x0, x1, x2⟩ := ed_one O3d.out; subst h3; replace x2 : w6.cell? ⟨b3, o3 + 2, none⟩ = some (.string ⟨#[]⟩) := x2; clear hb6)
            | (go_at_call 12; (refine (AW.out _ HB6.out).mono ?_); rintro en w7 ⟨rfl, hb7⟩; have HB7 := Lib.hid (HB6.out.trans (hb7.mono HB6.out.size)); clear hb7))
          go_ret
          exact ⟨rfl, HB7.out⟩
#print axioms turned_any
end Go.Proofs.YtbfaaphijgmabaaDoor

namespace Go.Proofs.YtbfaaphijgmabaaDoor
open Go.RowKit My

/-- Edits done, runes on the one side, bytes on the other. -/
def goV : List Int → List EdV → Option (List UInt8)
  | x, [] => if x = [] then some [] else none
  | x, e :: l => if 0 ≤ e.k ∧ e.k ≤ x.length ∧ 0 ≤ e.d ∧ e.d ≤ x.length - e.k then (goV (x.drop (e.k + e.d).toNat) l).map fun r => txt (x.take e.k.toNat) ++ e.s ++ r else none
theorem drop_gd {L : List EdV} {j : Nat} (hj : j < L.length) : L.drop j = gd L j :: L.drop (j + 1) := by
  have e : gd L j = L[j] := by unfold gd; simp [hj]
  rw [e]; exact List.drop_eq_getElem_cons hj
theorem goV_next {x : List Int} {L : List EdV} {j : Nat} {r : List UInt8} (hj : j < L.length) (h : goV x (L.drop j) = some r) :
    ∃ (k d : Nat) (q : List UInt8), (gd L j).k = (k : Int) ∧ (gd L j).d = (d : Int) ∧ k + d ≤ x.length ∧ goV (x.drop (k + d)) (L.drop (j + 1)) = some q ∧ r = txt (x.take k) ++ (gd L j).s ++ q := by
  rw [drop_gd hj, goV] at h
  split at h
  · rename_i h1
    obtain ⟨h1, h2, h3, h4⟩ := h1
    obtain ⟨q, hq, rfl⟩ := Option.map_eq_some_iff.1 h
    refine ⟨(gd L j).k.toNat, (gd L j).d.toNat, q, by omega, by omega, by omega, ?_, rfl⟩
    rw [show (gd L j).k.toNat + (gd L j).d.toNat = ((gd L j).k + (gd L j).d).toNat by omega]
    exact hq
  · cases h
theorem goV_end {x : List Int} {L : List EdV} {j : Nat} {r : List UInt8} (hj : j = L.length) (h : goV x (L.drop j) = some r) : x = [] ∧ r = [] := by
  subst hj
  rw [List.drop_length, goV] at h
  split at h
  · rename_i h1; exact ⟨h1, (Option.some.inj h).symm⟩
  · cases h

theorem Runs.cut_ {w : World} {b off n c : Nat} {l : List Int} (h : Runs w (some ⟨b, off, none⟩) n c l) (lo m : Nat) (hm : lo + m ≤ n) :
    Runs w (some ⟨b, off + lo, none⟩) m (c - lo) ((l.drop lo).take m) := by
  obtain ⟨h1, h2, h3, h4⟩ := h
  refine ⟨by simp; omega, by omega, by omega, .inr ⟨_, _, rfl, fun j hj => ?_⟩⟩
  rcases h4 with ⟨_, _⟩ | ⟨b', off', ha, hc⟩
  · omega
  · simp only [Option.some.injEq, Addr.mk.injEq, and_true] at ha
    obtain ⟨rfl, rfl⟩ := ha
    have := hc (lo + j) (by omega)
    rw [show off + lo + j = off + (lo + j) from by omega, this]
    simp [hj]
theorem Runs.dropped {w : World} {ta : Option Addr} {n c m : Nat} {L : List Int} (h : Runs w ta n c L) (hm : m ≤ n) : Runs w (if c = m then ta else ta.map (·.add (m * 1))) (n - m) (c - m) (L.drop m) := by
  have h0 := h
  obtain ⟨h1, h2, h3, h4⟩ := h
  by_cases hc : c = m
  · exact ⟨by simp; omega, by omega, by omega, .inl ⟨by omega, by omega⟩⟩
  · rw [if_neg hc]
    rcases h4 with ⟨rfl, rfl⟩ | ⟨b, off, rfl, _⟩
    · omega
    · have := h0.cut_ m (n - m) (by omega)
      rw [List.take_of_length_le (by simp; omega)] at this
      show Runs w (some ((⟨b, off, none⟩ : Addr).add (m * 1))) _ _ _
      rw [show (⟨b, off, none⟩ : Addr).add (m * 1) = ⟨b, off + m, none⟩ by simp [Addr.add]]
      exact this
theorem Runs.taken {w : World} {ta : Option Addr} {n c m : Nat} {L : List Int} (h : Runs w ta n c L) (hm : m ≤ n) : Runs w (if c = 0 then ta else ta.map (·.add (0 * 1))) m c (L.take m) := by
  have h0 := h
  obtain ⟨h1, h2, h3, h4⟩ := h
  by_cases hc : c = 0
  · exact ⟨by simp; omega, by omega, by omega, .inl ⟨by omega, by omega⟩⟩
  · rw [if_neg hc]
    rcases h4 with ⟨rfl, rfl⟩ | ⟨b, off, rfl, _⟩
    · omega
    · have := h0.cut_ 0 m (by omega)
      rw [List.drop_zero, Nat.sub_zero] at this
      rw [Nat.mul_one]
      exact this
theorem wl_drop {w w0 : World} {ops : Array Oper} {rest : List Oper} {o : Oper} {a : Act} {Q : Exit → Act → World → Prop} (hgd : o.guard = none) (s lo : Operand) (ho : o.op = .slice 22 s (some lo) none none)
    (ta : Option Addr) (n tc : Nat) (V : Int) (m : Nat) (L : List Int) (hs : a.eval s = .slice ta n tc) (hlo : a.eval lo = .int .i64 V) (hV : V = (m : Int)) (hm : m ≤ n) (h : Runs w0 ta n tc L)
    (hK : ∀ ta' tc', Runs w0 ta' (n - m) tc' (L.drop m) → wpList Tryd.prog ops Q rest (a.put o.dst (.slice ta' (n - m) tc')) w) : wpList Tryd.prog ops Q (o :: rest) a w := by
  subst hV
  have hU := Tryd.underlying22
  have hrun : (Instr.sliceAt 22 (.slice ta n tc) (some (.int .i64 (m : Int))) none none).run Tryd.prog w = .ok (.slice (if tc = m then ta else ta.map (·.add (m * 1))) (n - m) (tc - m)) w := by
    simp [go_sem, hU, hm]
  refine wpList_plain hgd fun K' hK' => ?_
  unfold Oper.wp
  simp [execOp, ho, hs, hlo, hrun, Result.andThen]
  refine hK' _ _ ?_
  have := hK _ _ (h.dropped hm)
  simpa using this
theorem wl_take {w w0 : World} {ops : Array Oper} {rest : List Oper} {o : Oper} {a : Act} {Q : Exit → Act → World → Prop} (hgd : o.guard = none) (s hi : Operand) (ho : o.op = .slice 22 s none (some hi) none)
    (ta : Option Addr) (n tc : Nat) (V : Int) (m : Nat) (L : List Int) (hs : a.eval s = .slice ta n tc) (hhi : a.eval hi = .int .i64 V) (hV : V = (m : Int)) (hm : m ≤ n) (h : Runs w0 ta n tc L)
    (hK : ∀ ta' tc', Runs w0 ta' m tc' (L.take m) → wpList Tryd.prog ops Q rest (a.put o.dst (.slice ta' m tc')) w) : wpList Tryd.prog ops Q (o :: rest) a w := by
  subst hV
  have hU := Tryd.underlying22
  have hmc : m ≤ tc := Nat.le_trans hm h.2.1
  have hrun : (Instr.sliceAt 22 (.slice ta n tc) none (some (.int .i64 (m : Int))) none).run Tryd.prog w = .ok (.slice (if tc = 0 then ta else ta.map (·.add (0 * 1))) m tc) w := by
    simp [go_sem, hU, hmc]
  refine wpList_plain hgd fun K' hK' => ?_
  unfold Oper.wp
  simp [execOp, ho, hs, hhi, hrun, Result.andThen]
  refine hK' _ _ ?_
  have := hK _ _ (h.taken hm)
  simpa using this

/-- A builder of the call's own, where more was laid behind it. -/
theorem Bld.below {b : Nat} {l : List UInt8} {w w' : World} (h : Bld b l w) (hb : Below w.heap.size w w') : Bld b l w' := by
  have one : ∀ p, Lib.BuilderAt 61 5 b b p (Lib.byteCells l) w → Lib.BuilderAt 61 5 b b p (Lib.byteCells l) w' := fun p h1 => by
    have hlt := h1.lt
    obtain ⟨hB, v, hh, hown, hne⟩ := h1
    refine ⟨hB, v, (hb.block b hlt).trans hh, hown.kept (row := none) ⟨hb.os, hb.tape, hb.output, hb.size, fun k hk _ => hb.block k hk⟩ (Classical.em _), hne⟩
  rcases h with h | h
  · exact .inl (one _ h)
  · exact .inr (one _ h)
/-- Rows of another type stand. -/
def KeepsRow (w w' : World) : Prop := ∀ (q : Nat) (cs : Array Value) (T : TypeId) (fr : Nat × Nat), w.heap[q]? = some (.cells cs T fr) → T ≠ 5 → T ≠ 61 → w'.heap[q]? = some (.cells cs T fr)
theorem ne_of_heap {w : World} {b q : Nat} {cs ds : Array Value} {S T : TypeId} {fr gr : Nat × Nat} (h1 : w.heap[b]? = some (.cells cs S fr)) (h2 : w.heap[q]? = some (.cells ds T gr)) (h : T ≠ S) : q ≠ b := fun e => by
  subst e
  rw [h1] at h2
  simp only [Option.some.injEq, Obj.cells.injEq] at h2
  exact h h2.2.1.symm
theorem copyCheck_row (B b : Nat) (bs : List Value) (w : World) (h : Lib.IsBuilder 61 5 B b bs w) :
    Calls Tryd.prog 41 #[.pointer (some ⟨b, 0, none⟩)] w fun e w' => e = .returned (.tuple #[]) ∧ (Lib.BuilderAt 61 5 B b (.pointer (some ⟨b, 0, none⟩)) bs w' ∧ Below B w w') ∧ KeepsRow w w' := by
  rcases h with h | h
  · refine (check_fresh b w h.cell0 h.shape h.frozen0).mono ?_
    rintro e w' ⟨rfl, rfl⟩
    refine ⟨rfl, ⟨h.used _, (Below.refl B w).setCell (p := ⟨b, 0, none⟩) h.1 _⟩, fun q cs T fr hq _ hT => ?_⟩
    obtain ⟨_, v, hb, _⟩ := h
    exact (Below.heap_setCell _ _ _ _ (ne_of_heap hb hq hT)).trans hq
  · refine (check_used b w h.cell0).mono ?_
    rintro e w' ⟨rfl, rfl⟩
    exact ⟨rfl, ⟨h, Below.refl B _⟩, fun q cs T fr hq _ _ => hq⟩

set_option maxHeartbeats 2000000 in
set_option maxRecDepth 100000 in
theorem writeString_row (B b : Nat) (bs : List Value) (s : ByteArray) (w : World) (h : Lib.IsBuilder 61 5 B b bs w) (hlen : bs.length + s.size ≤ 140737488355328) (hBw : B ≤ w.heap.size) :
    Calls Tryd.prog 29 #[.pointer (some ⟨b, 0, none⟩), .string s] w fun e w' => e = .returned (.tuple #[.int .i64 s.size, .nilIface]) ∧ (Lib.BuilderAt 61 5 B b (.pointer (some ⟨b, 0, none⟩)) (bs ++ Lib.strCells s) w' ∧ Below B w w') ∧ KeepsRow w w' := by
  obtain ⟨i0, hi, hz0, hz1, hz2⟩ := info_parts Tryd.info5
  go_enter Tryd.func29, Tryd.ntmps29
  go_wp2_with (go_at_call 41; refine (copyCheck_row B b bs _ h).mono ?_)
  rintro e w1 ⟨rfl, ⟨h1, hb1⟩, hk1⟩
  obtain ⟨hB, v, hbk, hown, hne⟩ := h1
  have HK1 := Lib.hid hk1
  clear hk1
  have c0 : w1.cell? ⟨b, 0, none⟩ = some (.pointer (some ⟨b, 0, none⟩)) := by rw [Lib.cell_of_heap hbk]; rfl
  have c1 : w1.cell? ⟨b, 1, none⟩ = some v := by rw [Lib.cell_of_heap hbk]; rfl
  go_wp2_with (at_builtin; refine Lib.wpList_append_own_string _ rfl _ _ 23 9 rfl B 5 i0 Tryd.underlying23 Tryd.underlying9 hi hz0 hz1 hz2 _ _ _ rfl hown s rfl ?c3 ?c4 ?c5 ?_)
  case c3 => unfold maxLen; omega
  case c4 => omega
  case c5 => have := hb1.size; omega
  intro v' w2 hown' hgrow _
  have hlt : b < w1.heap.size := by
    rcases Nat.lt_or_ge b w1.heap.size with h' | h'
    · exact h'
    · simp [Array.getElem?_eq_none h'] at hbk
  have hb2 : w2.heap[b]? = some (.cells #[.pointer (some ⟨b, 0, none⟩), v] 61 (0, 0)) := by
    rw [hgrow.block b hlt (fun e => hne e.symm)]
    exact hbk
  have HK2 := Lib.hid (show ∀ (q : Nat) (cs : Array Value) (T : TypeId) (fr : Nat × Nat), w1.heap[q]? = some (.cells cs T fr) → T ≠ 5 → w2.heap[q]? = some (.cells cs T fr) from fun q cs T fr hq hT => by
    have hlq : q < w1.heap.size := by
      rcases Nat.lt_or_ge q w1.heap.size with h' | h'
      · exact h'
      · simp [Array.getElem?_eq_none h'] at hq
    exact (hgrow.block q hlq (fun e => Lib.ownBlock_ne hown hq hT e.symm)).trans hq)
  have d0 : w2.cell? ⟨b, 0, none⟩ = some (.pointer (some ⟨b, 0, none⟩)) := by rw [Lib.cell_of_heap hb2]; rfl
  have d1 : w2.cell? ⟨b, 1, none⟩ = some v := by rw [Lib.cell_of_heap hb2]; rfl
  have f1 : w2.frozen? ⟨b, 1, none⟩ = false := Lib.frozen_of_heap hb2 1
  obtain ⟨ao, n', cap, rfl⟩ : ∃ ao n' cap, v' = .slice ao n' cap := by
    rcases hown'.2 with ⟨hv, _⟩ | ⟨g, cap, cur, hv, _⟩
    · exact ⟨_, _, _, hv⟩
    · exact ⟨_, _, _, hv⟩
  go_wp2
  go_ret2
  refine ⟨rfl, ⟨?_, ?_⟩, fun q cs T fr hq hT hS => ?_⟩
  · exact Lib.BuilderAt.put (T := 61) (e := 5) hB hb2 (bs' := bs ++ Lib.strCells s) (by simpa [Lib.strCells_length] using hown') (by decide)
  · exact (hb1.grown hgrow (by have := hb1.size; omega) (fun k hk => (hown.lt k hk).1)).setCell (p := ⟨b, 1, none⟩) hB _
  · have h2 := HK2.out q cs T fr (HK1.out q cs T fr hq hT hS) hT
    exact (Below.heap_setCell _ _ _ _ (ne_of_heap hb2 h2 hS)).trans h2
#print axioms writeString_row

/-- What Apply answers where it can be done. -/
def ApIs (r : List UInt8) (w : World) (e : Ending) (w' : World) : Prop := e = .returned (.tuple #[.string (strB r), .int .i64 0]) ∧ Below w.heap.size w w'
/-- Where the second loop stands. -/
structure ApAt (L : List EdV) (r : List UInt8) (j : Nat) (rest : List Int) (out : List UInt8) : Prop where
  more : ∃ q, goV rest (L.drop j) = some q ∧ r = out ++ q
  few : rest.length ≤ 20000000
  out : out.length ≤ j * 100000000
  ok : OkTo rest rest.length
theorem OkTo.taken {L : List Int} (h : OkTo L L.length) (k : Nat) : OkTo (L.take k) (L.take k).length := fun i hi => by
  rw [List.length_take] at hi
  have := h i (by omega)
  rwa [show (L.take k).getD i 0 = L.getD i 0 by simp [show i < k by omega]]
theorem OkTo.dropped {L : List Int} (h : OkTo L L.length) (k : Nat) : OkTo (L.drop k) (L.drop k).length := fun i hi => by
  rw [List.length_drop] at hi
  have := h (k + i) (by omega)
  rwa [show (L.drop k).getD i 0 = L.getD (k + i) 0 by simp]
theorem ApAt.next {L : List EdV} {r out : List UInt8} {j k d : Nat} {rest : List Int} (h : ApAt L r j rest out) (hx : (gd L j).s.length ≤ 20000000) (hkd : k + d ≤ rest.length) (hq : ∃ q, goV (rest.drop (k + d)) (L.drop (j + 1)) = some q ∧ r = out ++ (txt (rest.take k) ++ (gd L j).s ++ q)) :
    ApAt L r (j + 1) (rest.drop (k + d)) (out ++ txt (rest.take k) ++ (gd L j).s) := by
  obtain ⟨q, h1, h2⟩ := hq
  refine ⟨⟨q, h1, by rw [h2]; simp⟩, by have := h.few; rw [List.length_drop]; omega, ?_, h.ok.dropped _⟩
  have h3 := txt_le (rest.take k)
  have h4 := h.out
  have h5 := h.few
  rw [List.length_take] at h3
  simp only [List.length_append]
  omega
set_option maxRecDepth 100000 in
set_option maxHeartbeats 4000000 in
theorem apply_yes (s : ByteArray) (a : Option Addr) (n c : Nat) (L : List EdV) (x : List Nat) (p : Nat) (r : List UInt8) (w : World) (hs : s.size ≤ 20000000) (hx : runesF s.data.toList = (some x, p)) (h : AtG edK w a n c L) (hM : Mild L) (hok : ∀ e ∈ L, chkE e.s = (0, 0)) (hr : goV (zs x) L = some r) (hT : Tabs w) :
    Calls Tryd.prog 16 #[.string s, .slice a n c] w (ApIs r w) := by
  have R1 := Lib.hid (runes_any s w (by omega) hT)
  rw [runE_some hx] at R1
  have HL := Lib.hid h
  have HLN := Lib.hid h.1
  have HMI := Lib.hid hM
  have HT := Lib.hid hT
  have HOK := Lib.hid hok
  have hnI : (n : Int) ≤ 100000 := by have := hM.few; have := h.1; omega
  have HA := Lib.hid (show ApAt L r 0 (zs x) [] from ⟨⟨r, hr, rfl⟩, by
    have h1 := runesF_len hx
    have h2 : s.data.toList.length = s.size := by rw [Array.length_toList]; rfl
    rw [zs_length]; omega, by simp, ok_zs (runesF_some hx).1⟩)
  clear hs hx h hM hok hr hT
  go_enter Tryd.func16, Tryd.ntmps16
  go_wp2_with (go_at_call 24; (refine R1.out.mono ?_); rintro en w3 ⟨a3, n3, c3, rfl, ho3, hb3⟩; have HB3 := Lib.hid hb3; have HO3 := Lib.hid ho3.isRuns; clear ho3 hb3)
  go_loopg [31] n (fun gh v31 W => ∃ i : Nat, v31 = .int .i64 i ∧ gh + i = n ∧ Hid (Below w.heap.size w W) ∧ Hid (Runs W a3 n3 c3 (zs x)))
  case atStart => exact ⟨0, rfl, rfl, HB3, HO3⟩
  case round =>
    obtain ⟨i, rfl, hgh, HB, HO⟩ := hrel
    have HGH := Lib.hid hgh
    have hi0 : (0 : Int) ≤ (i : Int) := by omega
    have hin : (i : Int) ≤ (n : Int) := by omega
    clear hgh
    by_cases hi : (i : Int) < (n : Int)
    · have hib : decide (i < n) = true := by simp; omega
      have HI := Lib.hid (show i < n by omega)
      have HLw := Lib.hid (HL.out.below HB.out)
      obtain ⟨b, off, rfl⟩ := HL.out.some_ (by omega)
      have hx := HLw.out.at_ i HI.out
      have hmem := gd_mem (L := L) (i := i) (by rw [HLN.out]; exact HI.out)
      have hxl := HMI.out.s _ hmem
      have hxo := HOK.out _ hmem
      obtain ⟨x, hxg⟩ : ∃ x, gd L i = x := ⟨_, rfl⟩
      rw [hxg] at hx hxl hxo
      have CT := Lib.hid (fun W (hb : Below w.heap.size w W) => check_any (strB x.s) W (by rw [strB_size]; omega) (HT.out.below hb))
      rw [strB_list, hxo] at CT
      have x0 : wr.cell? ⟨b, off + i * 3, none⟩ = some (.int .i64 x.k) := hx 0 (.int .i64 x.k) rfl
      have x1 : wr.cell? ⟨b, off + i * 3 + 1, none⟩ = some (.int .i64 x.d) := hx 1 (.int .i64 x.d) rfl
      have x2 : wr.cell? ⟨b, off + i * 3 + 2, none⟩ = some (.string (strB x.s)) := hx 2 (.string (strB x.s)) rfl
      clear hx hxg hmem hxl hxo
      go_wp2_with (first
        | (go_at_call 27; (refine (CT.out _ (HB.out.alloc HB.out.size _)).mono ?_); rintro en w4 ⟨rfl, hb4⟩
           have HBL4 := Lib.hid (((Below.refl wr.heap.size wr).alloc (Nat.le_refl _) (.cells #[.int .i64 x.k, .int .i64 x.d, .string (strB x.s)] 39)).trans (hb4.mono (by simp)))
           clear hb4 x0 x1 x2))
      go_roundg (n - (i + 1))
      case measure => have := HGH.out; have := HI.out; omega
      case rel => exact ⟨i + 1, by go_num, by have := HGH.out; have := HI.out; omega, Lib.hid (HB.out.trans (HBL4.out.mono HB.out.size)), Lib.hid (HO.out.below HBL4.out)⟩
    · have hib : decide (i < n) = false := by simp; omega
      have hB0 : Bld wr.heap.size [] (wr.alloc (.cells #[.pointer none, .slice none 0 0] 61)) := Lib.fresh_isBuilder _ _ wr
      have HB0 := Lib.hid hB0
      have HLw := Lib.hid (HL.out.below HB.out)
      clear hB0 hi
      obtain ⟨W1, hW1⟩ : ∃ W, W = wr := ⟨_, rfl⟩
      subst hW1
      obtain ⟨b0, hb0⟩ : ∃ b, W1.heap.size = b := ⟨_, rfl⟩
      have HBE := Lib.hid hb0
      rw [hb0] at HB0
      go_wp2_with fail
      go_loopg [6, 47] n (fun gh v6 v47 W => ∃ (j : Nat) (la : Option Addr) (ln lc : Nat) (rest : List Int) (out : List UInt8), v47 = .int .i64 j ∧ v6 = .slice la ln lc ∧ gh + j = n ∧ Hid (Below W1.heap.size W1 W) ∧ Hid (Runs W1 la ln lc rest) ∧ Hid (Bld b0 out W) ∧ Hid (b0 < W.heap.size) ∧ Hid (ApAt L r j rest out))
      case atStart => exact ⟨0, a3, n3, c3, zs x, [], rfl, rfl, rfl, Lib.hid ((Below.refl _ _).alloc (Nat.le_refl _) _), HO, HB0, Lib.hid (by simp [← hb0]), HA⟩
      case round =>
        obtain ⟨j, la, ln, lc, rest, out, rfl, rfl, hgj, HBW, HR, HBL, HLT, HAT⟩ := hrel
        have HGJ := Lib.hid hgj
        have hj0 : (0 : Int) ≤ (j : Int) := by omega
        have hjn : (j : Int) ≤ (n : Int) := by omega
        clear hgj hb0
        by_cases hj : (j : Int) < (n : Int)
        · have hjb : decide (j < n) = true := by simp; omega
          have HJ := Lib.hid (show j < n by omega)
          have HL2 := Lib.hid (HLw.out.below HBW.out)
          obtain ⟨b, off, rfl⟩ := HL2.out.some_ (by omega)
          have hx := HL2.out.at_ j HJ.out
          have hmem := gd_mem (L := L) (i := j) (by rw [HLN.out]; exact HJ.out)
          obtain ⟨q, hq, hrq⟩ := HAT.out.more
          obtain ⟨kn, dn, q2, hk, hd, hkd, hq2, hqq⟩ := goV_next (by rw [HLN.out]; exact HJ.out) hq
          have hsl := HMI.out.s _ hmem
          have AN := HAT.out.next hsl hkd ⟨q2, hq2, by rw [hrq, hqq]⟩
          obtain ⟨xs, hxs⟩ : ∃ s, (gd L j).s = s := ⟨_, rfl⟩
          rw [hxs] at AN hsl
          have x0 : wr.cell? ⟨b, off + j * 3, none⟩ = some (.int .i64 (kn : Int)) := hx 0 (.int .i64 (kn : Int)) (by simp [edK, edC, hk])
          have x1 : wr.cell? ⟨b, off + j * 3 + 1, none⟩ = some (.int .i64 (dn : Int)) := hx 1 (.int .i64 (dn : Int)) (by simp [edK, edC, hd])
          have x2 : wr.cell? ⟨b, off + j * 3 + 2, none⟩ = some (.string (strB xs)) := hx 2 (.string (strB xs)) (by simp [edK, edC, hxs])
          have HAN := Lib.hid AN
          have hln : rest.length = ln := HR.out.1
          rw [hln] at hkd
          have HKD := Lib.hid hkd
          have HKL := Lib.hid (show kn ≤ ln by omega)
          have hl2 := HAT.out.few
          rw [hln] at hl2
          have hlI : (ln : Int) ≤ 20000000 := by omega
          have hk0 : (0 : Int) ≤ (kn : Int) := by omega
          have hd0 : (0 : Int) ≤ (dn : Int) := by omega
          have hkI : (kn : Int) ≤ (ln : Int) := by omega
          have hkdI : (kn : Int) + (dn : Int) ≤ (ln : Int) := by omega
          have z1 : decide ((kn : Int) < 0) = false := by simp
          have z2 : decide ((ln : Int) < (kn : Int)) = false := by simp; omega
          have z2b : decide (ln < kn) = false := by simp; omega
          have z3 : decide ((dn : Int) < 0) = false := by simp
          have z4 : decide ((ln : Int) - (kn : Int) < (dn : Int)) = false := by simp; omega
          have HTE := Lib.hid (txtE_yes (HAT.out.ok.taken kn))
          have HSL := Lib.hid (show out.length + (txt (rest.take kn)).length + xs.length ≤ 140737488355328 by
            have h1 := HAN.out.out
            simp only [List.length_append] at h1
            have h2 : j ≤ 100000 := by omega
            omega)
          clear hx hmem hq hrq hk hd hkd hq2 hqq hsl AN hxs hln hl2
          go_wp2_with fail
          go_quiet (fail)
          obtain ⟨w4, hw4⟩ : ∃ W, (wr.alloc (.cells #[.int .i64 (kn : Int), .int .i64 (dn : Int), .string (strB xs)] 39)).drewN nq = W := ⟨_, rfl⟩
          have HB4 := Lib.hid (show Below wr.heap.size wr w4 from hw4 ▸ ((Below.refl wr.heap.size wr).alloc (Nat.le_refl _) _).trans ((below_drewN _ nq).mono (by simp)))
          have E4 := Lib.hid (show w4.heap[wr.heap.size]? = some (.cells #[.int .i64 (kn : Int), .int .i64 (dn : Int), .string (strB xs)] 39 (0, 0)) by rw [← hw4, (below_drewN _ nq).block _ (by simp)]; first | exact heap_alloc_new _ _ | exact Lib.heap_alloc_new _ _)
          have S4 := Lib.hid (show wr.heap.size < w4.heap.size by have := (below_drewN (wr.alloc (.cells #[.int .i64 (kn : Int), .int .i64 (dn : Int), .string (strB xs)] 39)) nq).size; rw [hw4] at this; simp at this; omega)
          obtain ⟨eb, heb⟩ : ∃ b, wr.heap.size = b := ⟨_, rfl⟩
          rw [hw4, heb]
          rw [heb] at E4 S4
          clear hw4 heb x0 x1 x2
          go_wp2_with (first
            | (refine wl_take rfl _ _ rfl la ln lc (kn : Int) kn rest rfl rfl rfl HKL.out HR.out ?_; intro ta5 tc5 hr5; have TX := Lib.hid (fun W (hb : Below W1.heap.size W1 W) => HTE.out ▸ text_any ta5 kn tc5 (rest.take kn) W (hr5.below hb) (by have := HKL.out; have := HAT.out.few; have := HR.out.1; omega)); clear hr5)
            | (go_at_call 28; (refine (TX.out _ (HBW.out.trans (HB4.out.mono HBW.out.size))).mono ?_); rintro en w5 ⟨rfl, hb5⟩
               have HB5 := Lib.hid (HB4.out.trans (hb5.mono HB4.out.size))
               have E5 := Lib.hid ((hb5.block eb S4.out).trans E4.out)
               have W5 := Lib.hid (writeString_row b0 b0 _ (strB (txt (rest.take kn))) w5 (HBL.out.below HB5.out) (by rw [Lib.byteCells_length, strB_size]; have := HSL.out; omega) (by have := HLT.out; have := HB5.out.size; omega))
               clear hb5)
            | (go_at_call 29; have Q1 := Q0; (refine W6.out.mono ?_); rintro en w7 ⟨rfl, ⟨hbl7, hb7⟩, hk7⟩
               have HBL7 := Lib.hid (show Bld b0 (out ++ txt (rest.take kn) ++ xs) w7 by unfold Bld; rw [Lib.byteCells_append, ← strCells_strB xs]; exact .inr hbl7)
               have HB7 := Lib.hid (HB6.out.trans (HBE.out ▸ hb7))
               have S7 := Lib.hid (show b0 < w7.heap.size by have := hb7.size; have := S6.out; omega)
               clear hbl7 hb7 hk7 c6)
            | (go_at_call 29; (refine W5.out.mono ?_); rintro en w6 ⟨rfl, ⟨hbl6, hb6⟩, hk6⟩
               have HBL6 := Lib.hid (show Bld b0 (out ++ txt (rest.take kn)) w6 by unfold Bld; rw [Lib.byteCells_append, ← strCells_strB (txt (rest.take kn))]; exact .inr hbl6)
               have HB6 := Lib.hid ((HBW.out.trans (HB5.out.mono HBW.out.size)).trans (HBE.out ▸ hb6))
               have S6 := Lib.hid (show b0 < w6.heap.size by have := hb6.size; have := HLT.out; have := HB5.out.size; omega)
               have E6 := hk6 eb _ _ _ E5.out (by decide) (by decide)
               have c6 : w6.cell? ⟨eb, 2, none⟩ = some (.string (strB xs)) := by rw [Lib.cell_of_heap E6]; rfl
               have W6 := Lib.hid (writeString_row b0 b0 _ (strB xs) w6 HBL6.out (by rw [Lib.byteCells_length, strB_size, List.length_append]; have := HSL.out; omega) (by have := S6.out; omega))
               have Q0 := trivial
               clear hbl6 hb6 hk6 E6)
            | (refine wl_drop rfl _ _ rfl la ln lc ((kn : Int) + (dn : Int)) (kn + dn) rest rfl rfl (by simp) HKD.out HR.out ?_; intro ta8 tc8 hr8; have HR8 := Lib.hid hr8; clear hr8))
          go_roundg (n - (j + 1))
          case measure => have := HGJ.out; have := HJ.out; omega
          case rel => exact ⟨j + 1, ta8, ln - (kn + dn), tc8, rest.drop (kn + dn), out ++ txt (rest.take kn) ++ xs, by go_num, rfl, by have := HGJ.out; have := HJ.out; omega, HB7, HR8, HBL7, S7, HAN⟩
        · have hjb : decide (j < n) = false := by simp; omega
          have hj2 : j = L.length := by rw [HLN.out]; omega
          obtain ⟨q, hq, hrq⟩ := HAT.out.more
          obtain ⟨rfl, rfl⟩ := goV_end hj2 hq
          rw [List.append_nil] at hrq
          subst hrq
          obtain rfl : ln = 0 := HR.out.1.symm
          have BS := Lib.hid (Tryd.Builder_String_any b0 b0 r wr HBL.out (by have := HLT.out; omega))
          clear hj hj2 hq
          go_wp2_with (go_at_call 30; (refine BS.out.mono ?_); rintro en w9 ⟨rfl, hb9⟩; have HB9 := Lib.hid hb9; clear hb9)
          go_ret2
          exact ⟨rfl, HB.out.trans ((HBW.out.trans (HB9.out.mono (Nat.le_of_eq HBE.out))).mono HB.out.size)⟩
#print axioms apply_yes
end Go.Proofs.YtbfaaphijgmabaaDoor

namespace Go.Proofs.YtbfaaphijgmabaaDoor
open Go.RowKit My

theorem txt_append (a b : List Int) : txt (a ++ b) = txt a ++ txt b := by unfold txt; rw [List.map_append, textF_append]
theorem goV_ev : ∀ (l : List Er) (x y : List Int), applyR x l = some y → goV x (l.map ev) = some (txt y) := by
  intro l
  induction l with
  | nil =>
    intro x y h
    rw [applyR] at h
    split at h
    · rename_i h1
      obtain rfl := Option.some.inj h
      show (if x = [] then some [] else none) = _
      rw [if_pos h1]; rfl
    · cases h
  | cons e l ih =>
    intro x y h
    rw [applyR] at h
    split at h
    · rename_i h1
      obtain ⟨q, hq, rfl⟩ := Option.map_eq_some_iff.1 h
      have := ih _ _ hq
      show (if 0 ≤ (e.k : Int) ∧ (e.k : Int) ≤ x.length ∧ 0 ≤ (e.d : Int) ∧ (e.d : Int) ≤ x.length - (e.k : Int) then (goV (x.drop ((e.k : Int) + (e.d : Int)).toNat) (l.map ev)).map fun r => txt (x.take (e.k : Int).toNat) ++ txt e.a ++ r else none) = _
      rw [if_pos (by omega), show ((e.k : Int) + (e.d : Int)).toNat = e.k + e.d by omega, this, Int.toNat_natCast, txt_append, txt_append]
      rfl
    · cases h
theorem chk_cnt {l : List UInt8} {n : Nat} (h : cntE l = (n, 0)) : chkE l = (0, 0) := by
  rcases runesF_cases l with ⟨L, hL⟩ | ⟨p, hL⟩
  · exact chkE_some hL
  · rw [cntE_none hL] at h; simp at h
theorem txt_zs {b : List UInt8} {y : List Nat} {q : Nat} (hy : runesF b = (some y, q)) : txt (zs y) = b := by
  rw [(runesF_some hy).2.1]
  unfold txt
  rw [show (zs y).map Int.toNat = y from List.ext_getElem (by simp [zs]) fun i h1 h2 => by simp [zs]]
/-- Either both are texts and the script gives the other, or there is no script. -/
theorem back_facts (a b : List UInt8) (hl : a.length ≤ 4096 ∧ b.length ≤ 4096) : (∃ (x : List Nat) (p : Nat), runesF a = (some x, p) ∧ (diffF a b).2 = 0 ∧ goV (zs x) (diffF a b).1 = some b ∧ Mild (diffF a b).1 ∧ ∀ e ∈ (diffF a b).1, chkE e.s = (0, 0)) ∨ diffF a b = ([], 5) := by
  rcases runesF_cases a with ⟨x, hx⟩ | ⟨p, hx⟩
  · rcases runesF_cases b with ⟨y, hy⟩ | ⟨q, hy⟩
    · refine .inl ⟨x, _, hx, ?_, ?_, mild_diff a b hl, ?_⟩
      · rw [diff_some hx hy hl]
      · rw [diff_some hx hy hl, goV_ev _ _ _ (edits_apply (zs x) (zs y)), txt_zs hy]
      · rw [diff_some hx hy hl]
        intro e he
        obtain ⟨r, hr, rfl⟩ := List.mem_map.1 he
        exact chk_cnt (cnt_txt ((edits_bound (zs x) (zs y) (ok_zs (runesF_some hy).1)).2 r hr).2.2)
    · exact .inr (diff_none (.inr (by rw [cntE_none hy])))
  · exact .inr (diff_none (.inl (by rw [cntE_none hx])))
set_option maxRecDepth 100000 in
set_option maxHeartbeats 4000000 in
theorem back_any (s t : ByteArray) (w : World) (hT : Tabs w) (hs : s.size ≤ 140737488355328) (ht : t.size ≤ 140737488355328) : Calls Tryd.prog 6 #[.string s, .string t] w (BoolIs true w) := by
  have HT := Lib.hid hT
  have hsI : (s.size : Int) ≤ 140737488355328 := by omega
  have htI : (t.size : Int) ≤ 140737488355328 := by omega
  by_cases h1 : 600 < s.size
  · have z1 : decide (600 < s.size) = true := by simpa using h1
    have z2 : decide ((600 : Int) < (s.size : Int)) = true := by simp; omega
    clear h1 hT hs ht
    go_enter Tryd.func6, Tryd.ntmps6
    go_wp2
    go_ret
    exact ⟨rfl, Below.refl _ _⟩
  · have z1 : decide (600 < s.size) = false := by simpa using h1
    have z2 : decide ((600 : Int) < (s.size : Int)) = false := by simp; omega
    by_cases h2 : 600 < t.size
    · have z3 : decide (600 < t.size) = true := by simpa using h2
      have z4 : decide ((600 : Int) < (t.size : Int)) = true := by simp; omega
      clear h1 h2 hT hs ht
      go_enter Tryd.func6, Tryd.ntmps6
      go_wp2
      go_ret
      exact ⟨rfl, Below.refl _ _⟩
    · have z3 : decide (600 < t.size) = false := by simpa using h2
      have z4 : decide ((600 : Int) < (t.size : Int)) = false := by simp; omega
      have hls : s.data.toList.length = s.size := by rw [Array.length_toList]; rfl
      have hlt : t.data.toList.length = t.size := by rw [Array.length_toList]; rfl
      have D1 := Lib.hid (diff_any s t w (by omega) (by omega) hT)
      have AW := Lib.hid (fun W (hb : Below w.heap.size w W) => awake_any W (hT.below hb))
      have HS := Lib.hid (show s.size ≤ 20000000 by omega)
      have TT := Lib.hid (strB_of t)
      have TF := back_facts s.data.toList t.data.toList (by omega)
      obtain ⟨d1, hd1⟩ : ∃ d, diffF s.data.toList t.data.toList = d := ⟨_, rfl⟩
      rw [hd1] at D1 TF
      obtain ⟨L1, e1⟩ := d1
      clear h1 h2 hT hs ht hls hlt hd1
      rcases TF with ⟨x, p, hx, he, hr, hm, hk⟩ | hd
      · simp only at he hr hm hk
        subst he
        have HX := Lib.hid hx
        have HR := Lib.hid hr
        have HM := Lib.hid hm
        have HK := Lib.hid hk
        clear hx hr hm hk
        go_enter Tryd.func6, Tryd.ntmps6
        go_wp2_with (first
          | (go_at_call 13; (refine D1.out.mono ?_); rintro en w1 ⟨a1, c1, rfl, ho1, hb1⟩; have HB1 := Lib.hid hb1; have O1 := Lib.hid ho1; clear ho1 hb1)
          | (go_at_call 16; (refine (apply_yes s a1 _ c1 L1 x p _ w1 HS.out HX.out O1.out HM.out HK.out HR.out (HT.out.below HB1.out)).mono ?_); rintro en w2 ⟨rfl, hb2⟩; have HB2 := Lib.hid (HB1.out.trans (hb2.mono HB1.out.size)); rw [TT.out]; clear hb2)
          | (go_at_call 12; (refine (AW.out _ HB2.out).mono ?_); rintro en w7 ⟨rfl, hb7⟩; have HB7 := Lib.hid (HB2.out.trans (hb7.mono HB2.out.size)); clear hb7))
        go_ret
        exact ⟨rfl, HB7.out⟩
      · obtain ⟨rfl, rfl⟩ := Prod.mk.inj hd
        clear hd
        go_enter Tryd.func6, Tryd.ntmps6
        go_wp2_with (first
          | (go_at_call 13; (refine D1.out.mono ?_); rintro en w1 ⟨a1, c1, rfl, ho1, hb1⟩; have HB1 := Lib.hid hb1; clear ho1 hb1)
          | (go_at_call 12; (refine (AW.out _ HB1.out).mono ?_); rintro en w7 ⟨rfl, hb7⟩; have HB7 := Lib.hid (HB1.out.trans (hb7.mono HB1.out.size)); clear hb7))
        go_ret
        exact ⟨rfl, HB7.out⟩
#print axioms back_any
end Go.Proofs.YtbfaaphijgmabaaDoor

namespace Go.Proofs.YtbfaaphijgmabaaDoor
open Go.RowKit My

def ApNo (z : Nat) (w : World) (e : Ending) (w' : World) : Prop := e = .returned (.tuple #[.string ⟨#[]⟩, .int .i64 (z : Int)]) ∧ Below w.heap.size w w'
structure MildS (L : List EdV) : Prop where
  few : L.length ≤ 100000
  s : ∀ x ∈ L, x.s.length ≤ 20000000
theorem Mild.soft {L : List EdV} (h : Mild L) : MildS L := ⟨h.few, h.s⟩
theorem chk_cases (l : List UInt8) : chkE l = (0, 0) ∨ ∃ p, chkE l = (p, 5) := by
  rcases runesF_cases l with ⟨x, h⟩ | ⟨p, h⟩
  · exact .inl (chkE_some h)
  · exact .inr ⟨p, chkE_none h⟩
def Does (x : List Int) (e : EdV) : Prop := 0 ≤ e.k ∧ e.k ≤ x.length ∧ 0 ≤ e.d ∧ e.d ≤ x.length - e.k
theorem goV_no {x : List Int} {L : List EdV} {j : Nat} (hj : j < L.length) (h : goV x (L.drop j) = none) (hd : Does x (gd L j)) :
    ∃ (k d : Nat), (gd L j).k = (k : Int) ∧ (gd L j).d = (d : Int) ∧ k + d ≤ x.length ∧ goV (x.drop (k + d)) (L.drop (j + 1)) = none := by
  have h0 := hd
  obtain ⟨h1, h2, h3, h4⟩ := hd
  rw [drop_gd hj, goV, if_pos ⟨h1, h2, h3, h4⟩] at h
  refine ⟨(gd L j).k.toNat, (gd L j).d.toNat, by omega, by omega, by omega, ?_⟩
  rw [show (gd L j).k.toNat + (gd L j).d.toNat = ((gd L j).k + (gd L j).d).toNat by omega]
  exact Option.map_eq_none_iff.1 h
theorem goV_end_no {x : List Int} {L : List EdV} {j : Nat} (hj : j = L.length) (h : goV x (L.drop j) = none) : x ≠ [] := by
  subst hj
  rw [List.drop_length, goV] at h
  intro e
  rw [if_pos e] at h; cases h
theorem goV_small : ∀ {L : List EdV} {x : List Int} {r : List UInt8}, goV x L = some r → ∀ e ∈ L, e.d ≤ x.length := by
  intro L
  induction L with
  | nil => intro x r h e he; cases he
  | cons y L ih =>
    intro x r h e he
    rw [goV] at h
    split at h
    · rename_i h1
      obtain ⟨q, hq, _⟩ := Option.map_eq_some_iff.1 h
      rcases List.mem_cons.1 he with rfl | he
      · omega
      · have := ih hq e he
        rw [List.length_drop] at this; omega
    · cases h
theorem goV_mild {L : List EdV} {x : List Int} {r : List UInt8} (h : goV x L = some r) (hs : MildS L) (hx : x.length ≤ 1099511627776) : Mild L := ⟨hs.few, fun e he => by have := goV_small h e he; omega, hs.s⟩
structure ApBad (L : List EdV) (j : Nat) (rest : List Int) (out : List UInt8) : Prop where
  more : goV rest (L.drop j) = none
  few : rest.length ≤ 20000000
  out : out.length ≤ j * 100000000
  ok : OkTo rest rest.length
theorem ApBad.next {L : List EdV} {out : List UInt8} {j k d : Nat} {rest : List Int} (h : ApBad L j rest out) (hx : (gd L j).s.length ≤ 20000000) (hkd : k + d ≤ rest.length) (hq : goV (rest.drop (k + d)) (L.drop (j + 1)) = none) :
    ApBad L (j + 1) (rest.drop (k + d)) (out ++ txt (rest.take k) ++ (gd L j).s) := by
  refine ⟨hq, by have := h.few; rw [List.length_drop]; omega, ?_, h.ok.dropped _⟩
  have h3 := txt_le (rest.take k)
  have h4 := h.out
  have h5 := h.few
  rw [List.length_take] at h3
  simp only [List.length_append]
  omega
set_option maxRecDepth 100000 in
set_option maxHeartbeats 2000000 in
theorem apply_bad0 (s : ByteArray) (a : Option Addr) (n c : Nat) (p : Nat) (w : World) (hs : s.size ≤ 20000000) (hx : runesF s.data.toList = (none, p)) (hT : Tabs w) :
    Calls Tryd.prog 16 #[.string s, .slice a n c] w (ApNo 5 w) := by
  have R1 := Lib.hid (runes_any s w (by omega) hT)
  rw [runE_none hx] at R1
  clear hs hx hT
  go_enter Tryd.func16, Tryd.ntmps16
  go_wp2_with (go_at_call 24; (refine R1.out.mono ?_); rintro en w3 ⟨a3, n3, c3, rfl, ho3, hb3⟩; have HB3 := Lib.hid hb3; clear ho3 hb3)
  go_ret2
  exact ⟨rfl, HB3.out⟩
set_option maxRecDepth 100000 in
set_option maxHeartbeats 4000000 in
theorem apply_bad1 (s : ByteArray) (a : Option Addr) (n c : Nat) (L : List EdV) (x : List Nat) (p : Nat) (w : World) (hs : s.size ≤ 20000000) (hx : runesF s.data.toList = (some x, p)) (h : AtG edK w a n c L) (hM : MildS L) (hok : ¬ ∀ e ∈ L, chkE e.s = (0, 0)) (hT : Tabs w) :
    Calls Tryd.prog 16 #[.string s, .slice a n c] w (ApNo 5 w) := by
  have R1 := Lib.hid (runes_any s w (by omega) hT)
  rw [runE_some hx] at R1
  have HL := Lib.hid h
  have HLN := Lib.hid h.1
  have HMI := Lib.hid hM
  have HT := Lib.hid hT
  have HOK := Lib.hid hok
  have hnI : (n : Int) ≤ 100000 := by have := hM.few; have := h.1; omega
  clear hs hx h hM hok hT
  go_enter Tryd.func16, Tryd.ntmps16
  go_wp2_with (go_at_call 24; (refine R1.out.mono ?_); rintro en w3 ⟨a3, n3, c3, rfl, ho3, hb3⟩; have HB3 := Lib.hid hb3; have HO3 := Lib.hid ho3.isRuns; clear ho3 hb3)
  go_loopg [31] n (fun gh v31 W => ∃ i : Nat, v31 = .int .i64 i ∧ gh + i = n ∧ Hid (Below w.heap.size w W) ∧ Hid (Runs W a3 n3 c3 (zs x)) ∧ Hid (∀ k, k < i → chkE (gd L k).s = (0, 0)))
  case atStart => exact ⟨0, rfl, rfl, HB3, HO3, Lib.hid (fun k hk => by omega)⟩
  case round =>
    obtain ⟨i, rfl, hgh, HB, HO, HAL⟩ := hrel
    have HGH := Lib.hid hgh
    have hi0 : (0 : Int) ≤ (i : Int) := by omega
    have hin : (i : Int) ≤ (n : Int) := by omega
    clear hgh
    by_cases hi : (i : Int) < (n : Int)
    · have hib : decide (i < n) = true := by simp; omega
      have HI := Lib.hid (show i < n by omega)
      have HLw := Lib.hid (HL.out.below HB.out)
      obtain ⟨b, off, rfl⟩ := HL.out.some_ (by omega)
      have hx := HLw.out.at_ i HI.out
      have hmem := gd_mem (L := L) (i := i) (by rw [HLN.out]; exact HI.out)
      have hxl := HMI.out.s _ hmem
      obtain ⟨x, hxg⟩ : ∃ x, gd L i = x := ⟨_, rfl⟩
      rw [hxg] at hx hxl
      have CT := Lib.hid (fun W (hb : Below w.heap.size w W) => check_any (strB x.s) W (by rw [strB_size]; omega) (HT.out.below hb))
      rw [strB_list] at CT
      have HXG := Lib.hid hxg
      obtain ⟨ch, hch⟩ : ∃ c, chkE x.s = c := ⟨_, rfl⟩
      have HCC := Lib.hid (chk_cases x.s)
      rw [hch] at CT HCC
      have HCH := Lib.hid hch
      have x0 : wr.cell? ⟨b, off + i * 3, none⟩ = some (.int .i64 x.k) := hx 0 (.int .i64 x.k) rfl
      have x1 : wr.cell? ⟨b, off + i * 3 + 1, none⟩ = some (.int .i64 x.d) := hx 1 (.int .i64 x.d) rfl
      have x2 : wr.cell? ⟨b, off + i * 3 + 2, none⟩ = some (.string (strB x.s)) := hx 2 (.string (strB x.s)) rfl
      clear hx hxg hmem hxl hch
      rcases HCC.out with hc0 | ⟨p, hc5⟩
      · subst hc0
        go_wp2_with (first
          | (go_at_call 27; (refine (CT.out _ (HB.out.alloc HB.out.size _)).mono ?_); rintro en w4 ⟨rfl, hb4⟩
             have HBL4 := Lib.hid (((Below.refl wr.heap.size wr).alloc (Nat.le_refl _) (.cells #[.int .i64 x.k, .int .i64 x.d, .string (strB x.s)] 39)).trans (hb4.mono (by simp)))
             clear hb4 x0 x1 x2))
        go_roundg (n - (i + 1))
        case measure => have := HGH.out; have := HI.out; omega
        case rel => exact ⟨i + 1, by go_num, by have := HGH.out; have := HI.out; omega, Lib.hid (HB.out.trans (HBL4.out.mono HB.out.size)), Lib.hid (HO.out.below HBL4.out), Lib.hid (fun k hk => (Nat.lt_or_ge k i).elim (fun h => HAL.out k h) (fun h => by rw [show k = i by omega, HXG.out, HCH.out]))⟩
      · subst hc5
        go_wp2_with (first
          | (go_at_call 27; (refine (CT.out _ (HB.out.alloc HB.out.size _)).mono ?_); rintro en w4 ⟨rfl, hb4⟩
             have HBL4 := Lib.hid (((Below.refl wr.heap.size wr).alloc (Nat.le_refl _) (.cells #[.int .i64 x.k, .int .i64 x.d, .string (strB x.s)] 39)).trans (hb4.mono (by simp)))
             clear hb4 x0 x1 x2))
        go_ret2
        exact ⟨rfl, HB.out.trans (HBL4.out.mono HB.out.size)⟩
    · exact (HOK.out (fun e he => by
        obtain ⟨k, hk, rfl⟩ := List.getElem_of_mem he
        have := HAL.out k (by have := HLN.out; omega)
        have e : gd L k = L[k] := by unfold gd; simp [hk]
        rwa [e] at this)).elim
set_option maxRecDepth 100000 in
set_option maxHeartbeats 4000000 in
theorem apply_no (s : ByteArray) (a : Option Addr) (n c : Nat) (L : List EdV) (x : List Nat) (p : Nat) (w : World) (hs : s.size ≤ 20000000) (hx : runesF s.data.toList = (some x, p)) (h : AtG edK w a n c L) (hM : MildS L) (hok : ∀ e ∈ L, chkE e.s = (0, 0)) (hr : goV (zs x) L = none) (hT : Tabs w) :
    Calls Tryd.prog 16 #[.string s, .slice a n c] w (ApNo 1 w) := by
  have R1 := Lib.hid (runes_any s w (by omega) hT)
  rw [runE_some hx] at R1
  have HL := Lib.hid h
  have HLN := Lib.hid h.1
  have HMI := Lib.hid hM
  have HT := Lib.hid hT
  have HOK := Lib.hid hok
  have hnI : (n : Int) ≤ 100000 := by have := hM.few; have := h.1; omega
  have HA := Lib.hid (show ApBad L 0 (zs x) [] from ⟨hr, by
    have h1 := runesF_len hx
    have h2 : s.data.toList.length = s.size := by rw [Array.length_toList]; rfl
    rw [zs_length]; omega, by simp, ok_zs (runesF_some hx).1⟩)
  clear hs hx h hM hok hr hT
  go_enter Tryd.func16, Tryd.ntmps16
  go_wp2_with (go_at_call 24; (refine R1.out.mono ?_); rintro en w3 ⟨a3, n3, c3, rfl, ho3, hb3⟩; have HB3 := Lib.hid hb3; have HO3 := Lib.hid ho3.isRuns; clear ho3 hb3)
  go_loopg [31] n (fun gh v31 W => ∃ i : Nat, v31 = .int .i64 i ∧ gh + i = n ∧ Hid (Below w.heap.size w W) ∧ Hid (Runs W a3 n3 c3 (zs x)))
  case atStart => exact ⟨0, rfl, rfl, HB3, HO3⟩
  case round =>
    obtain ⟨i, rfl, hgh, HB, HO⟩ := hrel
    have HGH := Lib.hid hgh
    have hi0 : (0 : Int) ≤ (i : Int) := by omega
    have hin : (i : Int) ≤ (n : Int) := by omega
    clear hgh
    by_cases hi : (i : Int) < (n : Int)
    · have hib : decide (i < n) = true := by simp; omega
      have HI := Lib.hid (show i < n by omega)
      have HLw := Lib.hid (HL.out.below HB.out)
      obtain ⟨b, off, rfl⟩ := HL.out.some_ (by omega)
      have hx := HLw.out.at_ i HI.out
      have hmem := gd_mem (L := L) (i := i) (by rw [HLN.out]; exact HI.out)
      have hxl := HMI.out.s _ hmem
      have hxo := HOK.out _ hmem
      obtain ⟨x, hxg⟩ : ∃ x, gd L i = x := ⟨_, rfl⟩
      rw [hxg] at hx hxl hxo
      have CT := Lib.hid (fun W (hb : Below w.heap.size w W) => check_any (strB x.s) W (by rw [strB_size]; omega) (HT.out.below hb))
      rw [strB_list, hxo] at CT
      have x0 : wr.cell? ⟨b, off + i * 3, none⟩ = some (.int .i64 x.k) := hx 0 (.int .i64 x.k) rfl
      have x1 : wr.cell? ⟨b, off + i * 3 + 1, none⟩ = some (.int .i64 x.d) := hx 1 (.int .i64 x.d) rfl
      have x2 : wr.cell? ⟨b, off + i * 3 + 2, none⟩ = some (.string (strB x.s)) := hx 2 (.string (strB x.s)) rfl
      clear hx hxg hmem hxl hxo
      go_wp2_with (first
        | (go_at_call 27; (refine (CT.out _ (HB.out.alloc HB.out.size _)).mono ?_); rintro en w4 ⟨rfl, hb4⟩
           have HBL4 := Lib.hid (((Below.refl wr.heap.size wr).alloc (Nat.le_refl _) (.cells #[.int .i64 x.k, .int .i64 x.d, .string (strB x.s)] 39)).trans (hb4.mono (by simp)))
           clear hb4 x0 x1 x2))
      go_roundg (n - (i + 1))
      case measure => have := HGH.out; have := HI.out; omega
      case rel => exact ⟨i + 1, by go_num, by have := HGH.out; have := HI.out; omega, Lib.hid (HB.out.trans (HBL4.out.mono HB.out.size)), Lib.hid (HO.out.below HBL4.out)⟩
    · have hib : decide (i < n) = false := by simp; omega
      have hB0 : Bld wr.heap.size [] (wr.alloc (.cells #[.pointer none, .slice none 0 0] 61)) := Lib.fresh_isBuilder _ _ wr
      have HB0 := Lib.hid hB0
      have HLw := Lib.hid (HL.out.below HB.out)
      clear hB0 hi
      obtain ⟨W1, hW1⟩ : ∃ W, W = wr := ⟨_, rfl⟩
      subst hW1
      obtain ⟨b0, hb0⟩ : ∃ b, W1.heap.size = b := ⟨_, rfl⟩
      have HBE := Lib.hid hb0
      rw [hb0] at HB0
      go_wp2_with fail
      go_loopg [6, 47] n (fun gh v6 v47 W => ∃ (j : Nat) (la : Option Addr) (ln lc : Nat) (rest : List Int) (out : List UInt8), v47 = .int .i64 j ∧ v6 = .slice la ln lc ∧ gh + j = n ∧ Hid (Below W1.heap.size W1 W) ∧ Hid (Runs W1 la ln lc rest) ∧ Hid (Bld b0 out W) ∧ Hid (b0 < W.heap.size) ∧ Hid (ApBad L j rest out))
      case atStart => exact ⟨0, a3, n3, c3, zs x, [], rfl, rfl, rfl, Lib.hid ((Below.refl _ _).alloc (Nat.le_refl _) _), HO, HB0, Lib.hid (by simp [← hb0]), HA⟩
      case round =>
        obtain ⟨j, la, ln, lc, rest, out, rfl, rfl, hgj, HBW, HR, HBL, HLT, HAT⟩ := hrel
        have HGJ := Lib.hid hgj
        have hj0 : (0 : Int) ≤ (j : Int) := by omega
        have hjn : (j : Int) ≤ (n : Int) := by omega
        clear hgj hb0
        by_cases hj : (j : Int) < (n : Int)
        · have hjb : decide (j < n) = true := by simp; omega
          have HJ := Lib.hid (show j < n by omega)
          have HL2 := Lib.hid (HLw.out.below HBW.out)
          obtain ⟨b, off, rfl⟩ := HL2.out.some_ (by omega)
          have hx := HL2.out.at_ j HJ.out
          have hmem := gd_mem (L := L) (i := j) (by rw [HLN.out]; exact HJ.out)
          by_cases hdo : Does rest (gd L j)
          · have hd0 := trivial
            obtain ⟨kn, dn, hk, hd, hkd, hq2⟩ := goV_no (by rw [HLN.out]; exact HJ.out) HAT.out.more hdo
            have hsl := HMI.out.s _ hmem
            have AN := HAT.out.next hsl hkd hq2
            obtain ⟨xs, hxs⟩ : ∃ s, (gd L j).s = s := ⟨_, rfl⟩
            rw [hxs] at AN hsl
            have x0 : wr.cell? ⟨b, off + j * 3, none⟩ = some (.int .i64 (kn : Int)) := hx 0 (.int .i64 (kn : Int)) (by simp [edK, edC, hk])
            have x1 : wr.cell? ⟨b, off + j * 3 + 1, none⟩ = some (.int .i64 (dn : Int)) := hx 1 (.int .i64 (dn : Int)) (by simp [edK, edC, hd])
            have x2 : wr.cell? ⟨b, off + j * 3 + 2, none⟩ = some (.string (strB xs)) := hx 2 (.string (strB xs)) (by simp [edK, edC, hxs])
            have HAN := Lib.hid AN
            have hln : rest.length = ln := HR.out.1
            rw [hln] at hkd
            have HKD := Lib.hid hkd
            have HKL := Lib.hid (show kn ≤ ln by omega)
            have hl2 := HAT.out.few
            rw [hln] at hl2
            have hlI : (ln : Int) ≤ 20000000 := by omega
            have hk0 : (0 : Int) ≤ (kn : Int) := by omega
            have hd0 : (0 : Int) ≤ (dn : Int) := by omega
            have hkI : (kn : Int) ≤ (ln : Int) := by omega
            have hkdI : (kn : Int) + (dn : Int) ≤ (ln : Int) := by omega
            have z1 : decide ((kn : Int) < 0) = false := by simp
            have z2 : decide ((ln : Int) < (kn : Int)) = false := by simp; omega
            have z2b : decide (ln < kn) = false := by simp; omega
            have z3 : decide ((dn : Int) < 0) = false := by simp
            have z4 : decide ((ln : Int) - (kn : Int) < (dn : Int)) = false := by simp; omega
            have HTE := Lib.hid (txtE_yes (HAT.out.ok.taken kn))
            have HSL := Lib.hid (show out.length + (txt (rest.take kn)).length + xs.length ≤ 140737488355328 by
              have h1 := HAN.out.out
              simp only [List.length_append] at h1
              have h2 : j ≤ 100000 := by omega
              omega)
            clear hx hmem hk hd hkd hq2 hsl hdo AN hxs hln hl2
            go_wp2_with fail
            go_quiet (fail)
            obtain ⟨w4, hw4⟩ : ∃ W, (wr.alloc (.cells #[.int .i64 (kn : Int), .int .i64 (dn : Int), .string (strB xs)] 39)).drewN nq = W := ⟨_, rfl⟩
            have HB4 := Lib.hid (show Below wr.heap.size wr w4 from hw4 ▸ ((Below.refl wr.heap.size wr).alloc (Nat.le_refl _) _).trans ((below_drewN _ nq).mono (by simp)))
            have E4 := Lib.hid (show w4.heap[wr.heap.size]? = some (.cells #[.int .i64 (kn : Int), .int .i64 (dn : Int), .string (strB xs)] 39 (0, 0)) by rw [← hw4, (below_drewN _ nq).block _ (by simp)]; first | exact heap_alloc_new _ _ | exact Lib.heap_alloc_new _ _)
            have S4 := Lib.hid (show wr.heap.size < w4.heap.size by have := (below_drewN (wr.alloc (.cells #[.int .i64 (kn : Int), .int .i64 (dn : Int), .string (strB xs)] 39)) nq).size; rw [hw4] at this; simp at this; omega)
            obtain ⟨eb, heb⟩ : ∃ b, wr.heap.size = b := ⟨_, rfl⟩
            rw [hw4, heb]
            rw [heb] at E4 S4
            clear hw4 heb x0 x1 x2
            go_wp2_with (first
              | (refine wl_take rfl _ _ rfl la ln lc (kn : Int) kn rest rfl rfl rfl HKL.out HR.out ?_; intro ta5 tc5 hr5; have TX := Lib.hid (fun W (hb : Below W1.heap.size W1 W) => HTE.out ▸ text_any ta5 kn tc5 (rest.take kn) W (hr5.below hb) (by have := HKL.out; have := HAT.out.few; have := HR.out.1; omega)); clear hr5)
              | (go_at_call 28; (refine (TX.out _ (HBW.out.trans (HB4.out.mono HBW.out.size))).mono ?_); rintro en w5 ⟨rfl, hb5⟩
                 have HB5 := Lib.hid (HB4.out.trans (hb5.mono HB4.out.size))
                 have E5 := Lib.hid ((hb5.block eb S4.out).trans E4.out)
                 have W5 := Lib.hid (writeString_row b0 b0 _ (strB (txt (rest.take kn))) w5 (HBL.out.below HB5.out) (by rw [Lib.byteCells_length, strB_size]; have := HSL.out; omega) (by have := HLT.out; have := HB5.out.size; omega))
                 clear hb5)
              | (go_at_call 29; have Q1 := Q0; (refine W6.out.mono ?_); rintro en w7 ⟨rfl, ⟨hbl7, hb7⟩, hk7⟩
                 have HBL7 := Lib.hid (show Bld b0 (out ++ txt (rest.take kn) ++ xs) w7 by unfold Bld; rw [Lib.byteCells_append, ← strCells_strB xs]; exact .inr hbl7)
                 have HB7 := Lib.hid (HB6.out.trans (HBE.out ▸ hb7))
                 have S7 := Lib.hid (show b0 < w7.heap.size by have := hb7.size; have := S6.out; omega)
                 clear hbl7 hb7 hk7 c6)
              | (go_at_call 29; (refine W5.out.mono ?_); rintro en w6 ⟨rfl, ⟨hbl6, hb6⟩, hk6⟩
                 have HBL6 := Lib.hid (show Bld b0 (out ++ txt (rest.take kn)) w6 by unfold Bld; rw [Lib.byteCells_append, ← strCells_strB (txt (rest.take kn))]; exact .inr hbl6)
                 have HB6 := Lib.hid ((HBW.out.trans (HB5.out.mono HBW.out.size)).trans (HBE.out ▸ hb6))
                 have S6 := Lib.hid (show b0 < w6.heap.size by have := hb6.size; have := HLT.out; have := HB5.out.size; omega)
                 have E6 := hk6 eb _ _ _ E5.out (by decide) (by decide)
                 have c6 : w6.cell? ⟨eb, 2, none⟩ = some (.string (strB xs)) := by rw [Lib.cell_of_heap E6]; rfl
                 have W6 := Lib.hid (writeString_row b0 b0 _ (strB xs) w6 HBL6.out (by rw [Lib.byteCells_length, strB_size, List.length_append]; have := HSL.out; omega) (by have := S6.out; omega))
                 have Q0 := trivial
                 clear hbl6 hb6 hk6 E6)
              | (refine wl_drop rfl _ _ rfl la ln lc ((kn : Int) + (dn : Int)) (kn + dn) rest rfl rfl (by simp) HKD.out HR.out ?_; intro ta8 tc8 hr8; have HR8 := Lib.hid hr8; clear hr8))
            go_roundg (n - (j + 1))
            case measure => have := HGJ.out; have := HJ.out; omega
            case rel => exact ⟨j + 1, ta8, ln - (kn + dn), tc8, rest.drop (kn + dn), out ++ txt (rest.take kn) ++ xs, by go_num, rfl, by have := HGJ.out; have := HJ.out; omega, HB7, HR8, HBL7, S7, HAN⟩
          · have hln : rest.length = ln := HR.out.1
            obtain ⟨x, hxg⟩ : ∃ x, gd L j = x := ⟨_, rfl⟩
            rw [hxg] at hx hdo
            unfold Does at hdo
            rw [hln] at hdo
            have x0 : wr.cell? ⟨b, off + j * 3, none⟩ = some (.int .i64 x.k) := hx 0 (.int .i64 x.k) rfl
            have x1 : wr.cell? ⟨b, off + j * 3 + 1, none⟩ = some (.int .i64 x.d) := hx 1 (.int .i64 x.d) rfl
            have x2 : wr.cell? ⟨b, off + j * 3 + 2, none⟩ = some (.string (strB x.s)) := hx 2 (.string (strB x.s)) rfl
            have hl2 := HAT.out.few
            rw [hln] at hl2
            have hlI : (ln : Int) ≤ 20000000 := by omega
            obtain ⟨kz, hkz⟩ : ∃ z, x.k = z := ⟨_, rfl⟩
            obtain ⟨dz, hdz⟩ : ∃ z, x.d = z := ⟨_, rfl⟩
            rw [hkz, hdz] at hdo
            rw [hkz] at x0
            rw [hdz] at x1
            have QUIET := trivial
            clear hx hmem hxg hln hkz hdz hl2
            by_cases k0 : kz < 0
            · have z1 : decide (kz < 0) = true := by simpa using k0
              clear hdo
              go_wp2_with fail
              go_quiet (fail)
              obtain ⟨w4, hw4⟩ : ∃ W, (wr.alloc (.cells #[.int .i64 kz, .int .i64 dz, .string (strB x.s)] 39)).drewN nq = W := ⟨_, rfl⟩
              have HB4 := Lib.hid (show Below wr.heap.size wr w4 from hw4 ▸ ((Below.refl wr.heap.size wr).alloc (Nat.le_refl _) _).trans ((below_drewN _ nq).mono (by simp)))
              rw [hw4]
              clear hw4 x0 x1 x2
              go_wp2_with fail
              go_ret2
              exact ⟨rfl, HB.out.trans ((HBW.out.trans (HB4.out.mono HBW.out.size)).mono HB.out.size)⟩
            · have z1 : decide (kz < 0) = false := by simpa using k0
              by_cases k1 : (ln : Int) < kz
              · have z2 : decide ((ln : Int) < kz) = true := by simpa using k1
                clear hdo
                go_wp2_with fail
                go_quiet (fail)
                obtain ⟨w4, hw4⟩ : ∃ W, (wr.alloc (.cells #[.int .i64 kz, .int .i64 dz, .string (strB x.s)] 39)).drewN nq = W := ⟨_, rfl⟩
                have HB4 := Lib.hid (show Below wr.heap.size wr w4 from hw4 ▸ ((Below.refl wr.heap.size wr).alloc (Nat.le_refl _) _).trans ((below_drewN _ nq).mono (by simp)))
                rw [hw4]
                clear hw4 x0 x1 x2
                go_wp2_with fail
                go_ret2
                exact ⟨rfl, HB.out.trans ((HBW.out.trans (HB4.out.mono HBW.out.size)).mono HB.out.size)⟩
              · have z2 : decide ((ln : Int) < kz) = false := by simpa using k1
                by_cases k2 : dz < 0
                · have z3 : decide (dz < 0) = true := by simpa using k2
                  clear hdo
                  go_wp2_with fail
                  go_quiet (fail)
                  obtain ⟨w4, hw4⟩ : ∃ W, (wr.alloc (.cells #[.int .i64 kz, .int .i64 dz, .string (strB x.s)] 39)).drewN nq = W := ⟨_, rfl⟩
                  have HB4 := Lib.hid (show Below wr.heap.size wr w4 from hw4 ▸ ((Below.refl wr.heap.size wr).alloc (Nat.le_refl _) _).trans ((below_drewN _ nq).mono (by simp)))
                  rw [hw4]
                  clear hw4 x0 x1 x2
                  go_wp2_with fail
                  go_ret2
                  exact ⟨rfl, HB.out.trans ((HBW.out.trans (HB4.out.mono HBW.out.size)).mono HB.out.size)⟩
                · have z3 : decide (dz < 0) = false := by simpa using k2
                  have z4 : decide ((ln : Int) - kz < dz) = true := by simp; omega
                  clear hdo
                  go_wp2_with fail
                  go_quiet (fail)
                  obtain ⟨w4, hw4⟩ : ∃ W, (wr.alloc (.cells #[.int .i64 kz, .int .i64 dz, .string (strB x.s)] 39)).drewN nq = W := ⟨_, rfl⟩
                  have HB4 := Lib.hid (show Below wr.heap.size wr w4 from hw4 ▸ ((Below.refl wr.heap.size wr).alloc (Nat.le_refl _) _).trans ((below_drewN _ nq).mono (by simp)))
                  rw [hw4]
                  clear hw4 x0 x1 x2
                  go_wp2_with fail
                  go_ret2
                  exact ⟨rfl, HB.out.trans ((HBW.out.trans (HB4.out.mono HBW.out.size)).mono HB.out.size)⟩
        · have hjb : decide (j < n) = false := by simp; omega
          have hj2 : j = L.length := by rw [HLN.out]; omega
          have hne := goV_end_no hj2 HAT.out.more
          have hl0 : 0 < ln := by
            rcases Nat.eq_zero_or_pos ln with h | h
            · exact (hne (List.length_eq_zero_iff.1 (by rw [HR.out.1, h]))).elim
            · exact h
          have z5 : decide (0 < ln) = true := by simpa using hl0
          have z5I : decide ((0 : Int) < (ln : Int)) = true := by simp; omega
          clear hj hj2 hne hl0
          go_wp2_with fail
          go_ret2
          exact ⟨rfl, HB.out.trans (HBW.out.mono HB.out.size)⟩
#print axioms apply_bad1
#print axioms apply_no
end Go.Proofs.YtbfaaphijgmabaaDoor

namespace Go.Proofs.YtbfaaphijgmabaaDoor
open Go.RowKit My

theorem ref_some (s : ByteArray) (L : List Nat) (e0 : Nat) (w : World) (hs : s.size ≤ 20000000000) (h : runesF s.data.toList = (some L, e0)) :
    Calls Tryd.prog 20 #[.string s] w fun e w' => ∃ a n c, e = .returned (.tuple #[.slice a n c, .int .i64 0, .int .i64 0]) ∧ Runs w' a n c (zs L) ∧ Below w.heap.size w w' :=
  (refRunes_any s w hs).mono fun _ _ ⟨a, n, c, h1, h2, h3⟩ => ⟨a, n, c, by rw [h1, runE_some h]; rfl, by rw [runE_some h] at h2; exact h2.isRuns, h3⟩
theorem ref_none (s : ByteArray) (p : Nat) (w : World) (hs : s.size ≤ 20000000000) (h : runesF s.data.toList = (none, p)) :
    Calls Tryd.prog 20 #[.string s] w fun e w' => ∃ a n c, e = .returned (.tuple #[.slice a n c, .int .i64 p, .int .i64 5]) ∧ Runs w' a n c [] ∧ Below w.heap.size w w' :=
  (refRunes_any s w hs).mono fun _ _ ⟨a, n, c, h1, h2, h3⟩ => ⟨a, n, c, by rw [h1, runE_none h]; rfl, by rw [runE_none h] at h2; exact h2.isRuns, h3⟩
def isF (l : List UInt8) : Bool := match runesF l with | (some _, _) => true | (none, _) => false
theorem isF_yes {l : List UInt8} (h : chkE l = (0, 0)) : isF l = true := by
  unfold isF
  rcases runesF_cases l with ⟨x, hx⟩ | ⟨p, hx⟩
  · rw [hx]
  · rw [chkE_none hx] at h; simp at h
theorem isF_no {l : List UInt8} (h : isF l = true) : chkE l = (0, 0) := by
  rcases runesF_cases l with ⟨x, hx⟩ | ⟨p, hx⟩
  · exact chkE_some hx
  · unfold isF at h; rw [hx] at h; simp at h
set_option maxRecDepth 100000 in
set_option maxHeartbeats 400000 in
theorem refIs_any (s : ByteArray) (b : Bool) (w : World) (hs : s.size ≤ 20000000000) (hb : isF s.data.toList = b) :
    Calls Tryd.prog 31 #[.string s] w fun e w' => e = .returned (.bool b) ∧ Below w.heap.size w w' := by
  subst hb
  rcases runesF_cases s.data.toList with ⟨L, hL⟩ | ⟨p, hL⟩
  · have HC := Lib.hid (ref_some s L _ w hs hL)
    have HE := Lib.hid (show true = isF s.data.toList by unfold isF; rw [hL])
    clear hs hL
    go_enter Tryd.func31, Tryd.ntmps31
    go_wp2_with (go_at_call 20; (with_reducible refine HC.out.mono ?_); rintro e w1 ⟨a, n, c, rfl, hr, hb⟩)
    go_ret
    rw [← HE.out]
    exact ⟨rfl, hb⟩
  · have HC := Lib.hid (ref_none s p w hs hL)
    have HE := Lib.hid (show false = isF s.data.toList by unfold isF; rw [hL])
    clear hs hL
    go_enter Tryd.func31, Tryd.ntmps31
    go_wp2_with (go_at_call 20; (with_reducible refine HC.out.mono ?_); rintro e w1 ⟨a, n, c, rfl, hr, hb⟩)
    go_ret
    rw [← HE.out]
    exact ⟨rfl, hb⟩

/-- What Apply answers: a text and an error's number. -/
def ansV (o : Option (List UInt8)) : List UInt8 × Nat := match o with | some r => (r, 0) | none => ([], 1)
open Classical in
noncomputable def apA (s : List UInt8) (L : List EdV) : List UInt8 × Nat :=
  match runesF s with
  | (none, _) => ([], 5)
  | (some x, _) => if ∀ e ∈ L, chkE e.s = (0, 0) then ansV (goV (zs x) L) else ([], 5)
def ApA (v : List UInt8 × Nat) (w : World) (e : Ending) (w' : World) : Prop := e = .returned (.tuple #[.string (strB v.1), .int .i64 (v.2 : Int)]) ∧ Below w.heap.size w w'
theorem apA_none {s : List UInt8} {L : List EdV} {p : Nat} (h : runesF s = (none, p)) : apA s L = ([], 5) := by unfold apA; rw [h]
theorem apA_bad {s : List UInt8} {L : List EdV} {x : List Nat} {p : Nat} (h : runesF s = (some x, p)) (hb : ¬ ∀ e ∈ L, chkE e.s = (0, 0)) : apA s L = ([], 5) := by unfold apA; rw [h]; exact if_neg hb
theorem apA_some {s : List UInt8} {L : List EdV} {x : List Nat} {p : Nat} (h : runesF s = (some x, p)) (hb : ∀ e ∈ L, chkE e.s = (0, 0)) : apA s L = ansV (goV (zs x) L) := by unfold apA; rw [h]; exact if_pos hb
theorem apNo_A {z : Nat} {w w' : World} {e : Ending} (h : ApNo z w e w') : ApA ([], z) w e w' := h
theorem apIs_A {r : List UInt8} {w w' : World} {e : Ending} (h : ApIs r w e w') : ApA (r, 0) w e w' := h
/-- The program's Apply. -/
theorem applyA_any (s : ByteArray) (a : Option Addr) (n c : Nat) (L : List EdV) (w : World) (hs : s.size ≤ 20000000) (h : AtG edK w a n c L) (hM : MildS L) (hT : Tabs w) :
    Calls Tryd.prog 16 #[.string s, .slice a n c] w (ApA (apA s.data.toList L) w) := by
  rcases runesF_cases s.data.toList with ⟨x, hx⟩ | ⟨p, hx⟩
  · by_cases hok : ∀ e ∈ L, chkE e.s = (0, 0)
    · rw [apA_some hx hok]
      cases hr : goV (zs x) L with
      | none => exact (apply_no s a n c L x _ w hs hx h hM hok hr hT).mono fun _ _ h => h
      | some r =>
        have hl := runesF_len hx
        have hsz : s.data.toList.length = s.size := by rw [Array.length_toList]; rfl
        exact (apply_yes s a n c L x _ r w hs hx h (goV_mild hr hM (by rw [zs_length]; omega)) hok hr hT).mono fun _ _ h => h
    · rw [apA_bad hx hok]
      exact (apply_bad1 s a n c L x _ w hs hx h hM hok hT).mono fun _ _ h => h
  · rw [apA_none hx]
    exact (apply_bad0 s a n c p w hs hx hT).mono fun _ _ h => h

theorem Runs.mid {w : World} {ta : Option Addr} {n c lo m : Nat} {L : List Int} (h : Runs w ta n c L) (hm : lo + m ≤ n) : Runs w (if c = lo then ta else ta.map (·.add (lo * 1))) m (c - lo) ((L.drop lo).take m) := by
  have h0 := h
  obtain ⟨h1, h2, h3, h4⟩ := h
  by_cases hc : c = lo
  · exact ⟨by simp; omega, by omega, by omega, .inl ⟨by omega, by omega⟩⟩
  · rw [if_neg hc]
    rcases h4 with ⟨rfl, rfl⟩ | ⟨b, off, rfl, _⟩
    · omega
    · have := h0.cut_ lo m hm
      show Runs w (some ((⟨b, off, none⟩ : Addr).add (lo * 1))) _ _ _
      rw [show (⟨b, off, none⟩ : Addr).add (lo * 1) = ⟨b, off + lo, none⟩ by simp [Addr.add]]
      exact this
theorem wl_mid {w w0 : World} {ops : Array Oper} {rest : List Oper} {o : Oper} {a : Act} {Q : Exit → Act → World → Prop} (hgd : o.guard = none) (s lo hi : Operand) (ho : o.op = .slice 22 s (some lo) (some hi) none)
    (ta : Option Addr) (n tc : Nat) (U V : Int) (k m : Nat) (L : List Int) (hs : a.eval s = .slice ta n tc) (hlo : a.eval lo = .int .i64 U) (hU : U = (k : Int)) (hhi : a.eval hi = .int .i64 V) (hV : V = (k : Int) + (m : Int)) (hm : k + m ≤ n) (h : Runs w0 ta n tc L)
    (hK : ∀ ta' tc', Runs w0 ta' m tc' ((L.drop k).take m) → wpList Tryd.prog ops Q rest (a.put o.dst (.slice ta' m tc')) w) : wpList Tryd.prog ops Q (o :: rest) a w := by
  subst hU
  subst hV
  have hT := Tryd.underlying22
  have hmc : k + m ≤ tc := Nat.le_trans hm h.2.1
  have hrun : (Instr.sliceAt 22 (.slice ta n tc) (some (.int .i64 (k : Int))) (some (.int .i64 ((k : Int) + (m : Int)))) none).run Tryd.prog w = .ok (.slice (if tc = k then ta else ta.map (·.add (k * 1))) m (tc - k)) w := by
    have e1 : ((k : Int) + (m : Int)).toNat = k + m := by omega
    have e3 : (k : Int) + (m : Int) ≤ (tc : Int) := by omega
    have e4 : (k : Int) ≤ (k : Int) + (m : Int) := by omega
    simp [go_sem, hT, e1, e3, e4]
  refine wpList_plain hgd fun K' hK' => ?_
  unfold Oper.wp
  simp [execOp, ho, hs, hlo, hhi, hrun, Result.andThen]
  refine hK' _ _ ?_
  have := hK _ _ (h.mid hm)
  simpa using this

theorem goV_does {x : List Int} {L : List EdV} {j : Nat} (hj : j < L.length) (hd : Does x (gd L j)) :
    ∃ (k d : Nat), (gd L j).k = (k : Int) ∧ (gd L j).d = (d : Int) ∧ k + d ≤ x.length ∧ goV x (L.drop j) = (goV (x.drop (k + d)) (L.drop (j + 1))).map fun r => txt (x.take k) ++ (gd L j).s ++ r := by
  obtain ⟨h1, h2, h3, h4⟩ := hd
  refine ⟨(gd L j).k.toNat, (gd L j).d.toNat, by omega, by omega, by omega, ?_⟩
  rw [drop_gd hj, goV, if_pos ⟨h1, h2, h3, h4⟩, show (gd L j).k.toNat + (gd L j).d.toNat = ((gd L j).k + (gd L j).d).toNat by omega]
theorem goV_not {x : List Int} {L : List EdV} {j : Nat} (hj : j < L.length) (hd : ¬ Does x (gd L j)) : goV x (L.drop j) = none := by
  rw [drop_gd hj, goV]
  exact if_neg hd
theorem goV_fin {x : List Int} {L : List EdV} {j : Nat} (hj : j = L.length) : goV x (L.drop j) = if x = [] then some [] else none := by
  subst hj
  rw [List.drop_length, goV]
/-- Where the document's second loop stands. -/
structure RAp (X : List Int) (L : List EdV) (o : Option (List UInt8)) (j p : Nat) (out : List UInt8) : Prop where
  more : o = (goV (X.drop p) (L.drop j)).map fun r => out ++ r
  le : p ≤ X.length
  few : X.length ≤ 20000000
  out : out.length ≤ j * 100000000
  ok : OkTo X X.length
theorem RAp.next {X : List Int} {L : List EdV} {o : Option (List UInt8)} {j p k d : Nat} {out : List UInt8} (h : RAp X L o j p out) (hx : (gd L j).s.length ≤ 20000000) (hkd : k + d ≤ X.length - p)
    (hq : goV (X.drop p) (L.drop j) = (goV ((X.drop p).drop (k + d)) (L.drop (j + 1))).map fun r => txt ((X.drop p).take k) ++ (gd L j).s ++ r) :
    RAp X L o (j + 1) (p + (k + d)) (out ++ (txt ((X.drop p).take k) ++ (gd L j).s)) := by
  refine ⟨?_, by have := h.le; omega, h.few, ?_, h.ok⟩
  · rw [h.more, hq, List.drop_drop, Option.map_map]
    congr 1
    funext r
    simp
  · have h3 := txt_le ((X.drop p).take k)
    have h4 := h.out
    have h5 := h.few
    rw [List.length_take] at h3
    simp only [List.length_append]
    omega
theorem strB_appA (l m : List UInt8) : strB l ++ strB m = strB (l ++ m) := by
  apply ByteArray.ext
  simp [strB]
theorem run_catA (l m : List UInt8) (h : l.length + m.length ≤ 9223372036854775807) (W : World) : (Op.stringOp .add (strB l) (strB m)).run Tryd.prog W = .ok (.string (strB (l ++ m))) W := by
  have hm : ¬ (((strB l).size + (strB m).size : Nat) : Int) > IntKind.i64.max := by
    rw [strB_size, strB_size]
    simp only [IntKind.max, IntKind.signed, IntKind.bits]
    simp; omega
  unfold Op.stringOp
  simp only [hm, if_false, Sem.run_pure]
  congr 2
set_option maxRecDepth 100000 in
set_option maxHeartbeats 4000000 in
theorem refApply_some (s : ByteArray) (a : Option Addr) (n c : Nat) (L : List EdV) (x : List Nat) (p0 : Nat) (w : World) (hs : s.size ≤ 20000000) (hx : runesF s.data.toList = (some x, p0)) (h : AtG edK w a n c L) (hM : MildS L) (hok : ∀ e ∈ L, chkE e.s = (0, 0)) :
    Calls Tryd.prog 17 #[.string s, .slice a n c] w (ApA (ansV (goV (zs x) L)) w) := by
  have R1 := Lib.hid (ref_some s x p0 w (by omega) hx)
  obtain ⟨o, ho⟩ : ∃ o, goV (zs x) L = o := ⟨_, rfl⟩
  have HA := Lib.hid (show RAp (zs x) L o 0 0 [] from ⟨by rw [List.drop_zero, List.drop_zero, ho]; cases o <;> rfl, Nat.zero_le _, by
    have h1 := runesF_len hx
    have h2 : s.data.toList.length = s.size := by rw [Array.length_toList]; rfl
    rw [zs_length]; omega, by simp, ok_zs (runesF_some hx).1⟩)
  rw [ho]
  have HL := Lib.hid h
  have HLN := Lib.hid h.1
  have HMI := Lib.hid hM
  have HOK := Lib.hid hok
  have hnI : (n : Int) ≤ 100000 := by have := hM.few; have := h.1; omega
  obtain ⟨X, hX⟩ : ∃ X, zs x = X := ⟨_, rfl⟩
  rw [hX] at R1 HA
  clear hs hx h hM hok ho hX
  go_enter Tryd.func17, Tryd.ntmps17
  go_wp2_with (go_at_call 20; (refine R1.out.mono ?_); rintro en w3 ⟨a3, n3, c3, rfl, hr3, hb3⟩; have HB3 := Lib.hid hb3; have HN3 := Lib.hid hr3.1; have HO3 := Lib.hid hr3; clear hr3 hb3)
  go_loopg [9] n (fun gh v9 W => ∃ i : Nat, v9 = .int .i64 i ∧ gh + i = n ∧ Hid (Below w3.heap.size w3 W))
  case atStart => exact ⟨0, rfl, rfl, Lib.hid (Below.refl _ _)⟩
  case round =>
    obtain ⟨i, rfl, hgh, HB⟩ := hrel
    have HGH := Lib.hid hgh
    have hi0 : (0 : Int) ≤ (i : Int) := by omega
    have hin : (i : Int) ≤ (n : Int) := by omega
    clear hgh
    by_cases hi : (i : Int) < (n : Int)
    · have hib : decide (i < n) = true := by simp; omega
      have HI := Lib.hid (show i < n by omega)
      have HLw := Lib.hid ((HL.out.below HB3.out).below HB.out)
      obtain ⟨b, off, rfl⟩ := HL.out.some_ (by omega)
      have hx := HLw.out.at_ i HI.out
      have hmem := gd_mem (L := L) (i := i) (by rw [HLN.out]; exact HI.out)
      have hxl := HMI.out.s _ hmem
      have hxo := HOK.out _ hmem
      obtain ⟨x, hxg⟩ : ∃ x, gd L i = x := ⟨_, rfl⟩
      rw [hxg] at hx hxl hxo
      have CT := Lib.hid (fun W => refIs_any (strB x.s) true W (by rw [strB_size]; omega) (by rw [strB_list]; exact isF_yes hxo))
      have x2 : wr.cell? ⟨b, off + i * 3 + 2, none⟩ = some (.string (strB x.s)) := hx 2 (.string (strB x.s)) rfl
      clear hx hxg hmem hxl hxo
      go_wp2_with (first
        | (go_at_call 31; (refine (CT.out _).mono ?_); rintro en w4 ⟨rfl, hb4⟩; have HB4 := Lib.hid hb4; clear hb4))
      go_roundg (n - (i + 1))
      case measure => have := HGH.out; have := HI.out; omega
      case rel => exact ⟨i + 1, by go_num, by have := HGH.out; have := HI.out; omega, Lib.hid (HB.out.trans (HB4.out.mono HB.out.size))⟩
    · have hib : decide (i < n) = false := by simp; omega
      clear hi
      obtain ⟨W1, hW1⟩ : ∃ W, W = wr := ⟨_, rfl⟩
      subst hW1
      go_wp2_with fail
      go_loopg [10, 11, 12] n (fun gh v10 v11 v12 W => ∃ (j p : Nat) (out : List UInt8), v12 = .int .i64 j ∧ v10 = .int .i64 p ∧ v11 = .string (strB out) ∧ gh + j = n ∧ Hid (Below W1.heap.size W1 W) ∧ Hid (RAp X L o j p out))
      case atStart => exact ⟨0, 0, [], rfl, rfl, rfl, rfl, Lib.hid (Below.refl _ _), HA⟩
      case round =>
        obtain ⟨j, p, out, rfl, rfl, rfl, hgj, HBW, HAT⟩ := hrel
        have HGJ := Lib.hid hgj
        have hj0 : (0 : Int) ≤ (j : Int) := by omega
        have hjn : (j : Int) ≤ (n : Int) := by omega
        have hp0 : (0 : Int) ≤ (p : Int) := by omega
        have hpn : (p : Int) ≤ (n3 : Int) := by have := HAT.out.le; have := HN3.out; omega
        have hn3 : (n3 : Int) ≤ 20000000 := by have := HAT.out.few; have := HN3.out; omega
        have HBA := Lib.hid (HB3.out.trans ((HB.out.trans (HBW.out.mono HB.out.size)).mono HB3.out.size))
        clear hgj
        by_cases hj : (j : Int) < (n : Int)
        · have hjb : decide (j < n) = true := by simp; omega
          have HJ := Lib.hid (show j < n by omega)
          have HL2 := Lib.hid (HL.out.below HBA.out)
          obtain ⟨b, off, rfl⟩ := HL2.out.some_ (by omega)
          have hx := HL2.out.at_ j HJ.out
          have hmem := gd_mem (L := L) (i := j) (by rw [HLN.out]; exact HJ.out)
          by_cases hdo : Does (X.drop p) (gd L j)
          · have hsl := HMI.out.s _ hmem
            obtain ⟨kn, dn, hk, hd, hkd, hq2⟩ := goV_does (by rw [HLN.out]; exact HJ.out) hdo
            rw [List.length_drop] at hkd
            have AN := HAT.out.next hsl hkd hq2
            obtain ⟨xs, hxs⟩ : ∃ s, (gd L j).s = s := ⟨_, rfl⟩
            rw [hxs] at AN hsl
            have x0 : wr.cell? ⟨b, off + j * 3, none⟩ = some (.int .i64 (kn : Int)) := hx 0 (.int .i64 (kn : Int)) (by simp [edK, edC, hk])
            have x1 : wr.cell? ⟨b, off + j * 3 + 1, none⟩ = some (.int .i64 (dn : Int)) := hx 1 (.int .i64 (dn : Int)) (by simp [edK, edC, hd])
            have x2 : wr.cell? ⟨b, off + j * 3 + 2, none⟩ = some (.string (strB xs)) := hx 2 (.string (strB xs)) (by simp [edK, edC, hxs])
            have HAN := Lib.hid AN
            rw [HN3.out] at hkd
            have hk0 : (0 : Int) ≤ (kn : Int) := by omega
            have hd0 : (0 : Int) ≤ (dn : Int) := by omega
            have hpk : (p : Int) + (kn : Int) ≤ (n3 : Int) := by omega
            have hkI : (kn : Int) ≤ (n3 : Int) - (p : Int) := by omega
            have hdI : (dn : Int) ≤ (n3 : Int) - (p : Int) - (kn : Int) := by omega
            have z1 : decide ((kn : Int) < 0) = false := by simp
            have z3 : decide ((dn : Int) < 0) = false := by simp
            have z2 : decide ((n3 : Int) - (p : Int) < (kn : Int)) = false := by simp; omega
            have z4 : decide ((n3 : Int) - (p : Int) - (kn : Int) < (dn : Int)) = false := by simp; omega
            have HPK := Lib.hid (show p + kn ≤ n3 by omega)
            have HTE := Lib.hid (txtE_yes ((HAT.out.ok.dropped p).taken kn))
            have TX := Lib.hid (fun ta tc (hr : Runs w3 ta kn tc ((X.drop p).take kn)) W (hb : Below w3.heap.size w3 W) => HTE.out ▸ refText_any ta kn tc ((X.drop p).take kn) W (hr.below hb) (by omega))
            obtain ⟨tx, htx⟩ : ∃ t, txt ((X.drop p).take kn) = t := ⟨_, rfl⟩
            rw [htx] at TX HAN
            have hsz : out.length + (tx.length + xs.length) ≤ 9223372036854775807 := by
              have h1 := HAN.out.out
              simp only [List.length_append] at h1
              have h2 : j ≤ 100000 := by omega
              omega
            have c1 := run_catA tx xs (by omega)
            have c2 := run_catA out (tx ++ xs) (by rw [List.length_append]; exact hsz)
            have HBZ := Lib.hid (HB.out.trans (HBW.out.mono HB.out.size))
            clear hx hmem hk hd hkd hq2 hsl AN hxs hdo htx hsz
            go_wp2_with fail
            go_quiet (fail)
            obtain ⟨w4, hw4⟩ : ∃ W, wr.drewN nq = W := ⟨_, rfl⟩
            have HB4 := Lib.hid (show Below wr.heap.size wr w4 from hw4 ▸ below_drewN _ nq)
            replace x0 := cell_below x0 HB4.out
            replace x1 := cell_below x1 HB4.out
            replace x2 := cell_below x2 HB4.out
            rw [hw4]
            clear hw4
            go_wp2_with (first
              | (refine wl_mid rfl _ _ _ rfl a3 n3 c3 (p : Int) ((p : Int) + (kn : Int)) p kn X rfl rfl rfl rfl rfl HPK.out HO3.out ?_; intro ta5 tc5 hr5; have R5 := Lib.hid hr5; clear hr5)
              | (go_at_call 32; (refine (TX.out _ _ R5.out _ (HBZ.out.trans (HB4.out.mono HBZ.out.size))).mono ?_); rintro en w5 ⟨rfl, hb5⟩
                 have HB5 := Lib.hid (HB4.out.trans (hb5.mono HB4.out.size))
                 replace x0 := cell_below x0 hb5
                 replace x1 := cell_below x1 hb5
                 replace x2 := cell_below x2 hb5
                 clear hb5))
            go_quiet (fail)
            obtain ⟨w6, hw6⟩ : ∃ W, w5.drewN nq = W := ⟨_, rfl⟩
            have HB6 := Lib.hid (show Below wr.heap.size wr w6 from hw6 ▸ HB5.out.trans ((below_drewN _ nq).mono HB5.out.size))
            rw [hw6]
            clear hw6
            go_wp2_with fail
            go_roundg (n - (j + 1))
            case measure => have := HGJ.out; have := HJ.out; omega
            case rel => exact ⟨j + 1, p + (kn + dn), out ++ (tx ++ xs), by go_num, by go_num, rfl, by have := HGJ.out; have := HJ.out; omega, Lib.hid (HBW.out.trans (HB6.out.mono HBW.out.size)), HAN⟩
          · have HON := Lib.hid (show o = none by rw [HAT.out.more, goV_not (by rw [HLN.out]; exact HJ.out) hdo]; rfl)
            obtain ⟨x, hxg⟩ : ∃ x, gd L j = x := ⟨_, rfl⟩
            rw [hxg] at hx hdo
            unfold Does at hdo
            rw [List.length_drop, HN3.out] at hdo
            have x0 : wr.cell? ⟨b, off + j * 3, none⟩ = some (.int .i64 x.k) := hx 0 (.int .i64 x.k) rfl
            have x1 : wr.cell? ⟨b, off + j * 3 + 1, none⟩ = some (.int .i64 x.d) := hx 1 (.int .i64 x.d) rfl
            obtain ⟨kz, hkz⟩ : ∃ z, x.k = z := ⟨_, rfl⟩
            obtain ⟨dz, hdz⟩ : ∃ z, x.d = z := ⟨_, rfl⟩
            rw [hkz, hdz] at hdo
            rw [hkz] at x0
            rw [hdz] at x1
            have hlen : ((n3 - p : Nat) : Int) = (n3 : Int) - (p : Int) := by omega
            rw [hlen] at hdo
            clear hx hmem hxg hkz hdz hlen
            by_cases k0 : kz < 0
            · have z1 : decide (kz < 0) = true := by simpa using k0
              clear hdo
              go_wp2_with fail
              go_quiet (fail)
              obtain ⟨w4, hw4⟩ : ∃ W, wr.drewN nq = W := ⟨_, rfl⟩
              have HB4 := Lib.hid (show Below wr.heap.size wr w4 from hw4 ▸ below_drewN _ nq)
              rw [hw4]
              clear hw4 x0 x1
              go_wp2_with fail
              go_ret2
              rw [HON.out]
              exact ⟨rfl, HBA.out.trans (HB4.out.mono HBA.out.size)⟩
            · have z1 : decide (kz < 0) = false := by simpa using k0
              have k0' : 0 ≤ kz := by omega
              by_cases k2 : dz < 0
              · have z3 : decide (dz < 0) = true := by simpa using k2
                clear hdo
                go_wp2_with fail
                go_quiet (fail)
                obtain ⟨w4, hw4⟩ : ∃ W, wr.drewN nq = W := ⟨_, rfl⟩
                have HB4 := Lib.hid (show Below wr.heap.size wr w4 from hw4 ▸ below_drewN _ nq)
                rw [hw4]
                clear hw4 x0 x1
                go_wp2_with fail
                go_ret2
                rw [HON.out]
                exact ⟨rfl, HBA.out.trans (HB4.out.mono HBA.out.size)⟩
              · have z3 : decide (dz < 0) = false := by simpa using k2
                by_cases k1 : (n3 : Int) - (p : Int) < kz
                · have z2 : decide ((n3 : Int) - (p : Int) < kz) = true := by simpa using k1
                  clear hdo
                  go_wp2_with fail
                  go_quiet (fail)
                  obtain ⟨w4, hw4⟩ : ∃ W, wr.drewN nq = W := ⟨_, rfl⟩
                  have HB4 := Lib.hid (show Below wr.heap.size wr w4 from hw4 ▸ below_drewN _ nq)
                  rw [hw4]
                  clear hw4 x0 x1
                  go_wp2_with fail
                  go_ret2
                  rw [HON.out]
                  exact ⟨rfl, HBA.out.trans (HB4.out.mono HBA.out.size)⟩
                · have z2 : decide ((n3 : Int) - (p : Int) < kz) = false := by simpa using k1
                  have k1' : kz ≤ (n3 : Int) - (p : Int) := by omega
                  have z4 : decide ((n3 : Int) - (p : Int) - kz < dz) = true := by simp; omega
                  clear hdo
                  go_wp2_with fail
                  go_quiet (fail)
                  obtain ⟨w4, hw4⟩ : ∃ W, wr.drewN nq = W := ⟨_, rfl⟩
                  have HB4 := Lib.hid (show Below wr.heap.size wr w4 from hw4 ▸ below_drewN _ nq)
                  rw [hw4]
                  clear hw4 x0 x1
                  go_wp2_with fail
                  go_ret2
                  rw [HON.out]
                  exact ⟨rfl, HBA.out.trans (HB4.out.mono HBA.out.size)⟩
        · have hjb : decide (j < n) = false := by simp; omega
          have hj2 : j = L.length := by rw [HLN.out]; omega
          have hq := HAT.out.more
          rw [goV_fin hj2] at hq
          by_cases hpe : p = n3
          · have z1 : (p == n3) = true := by simpa using hpe
            have z2 : ((p : Int) == (n3 : Int)) = true := by simp; omega
            have z3 : (p != n3) = false := by simpa using hpe
            have z4 : ((p : Int) != (n3 : Int)) = false := by simp; omega
            have HON := Lib.hid (show o = some out by rw [hq, if_pos (List.drop_eq_nil_of_le (by rw [HN3.out]; omega))]; simp)
            clear hj hj2 hq hpe
            go_wp2
            go_ret2
            rw [HON.out]
            exact ⟨rfl, HBA.out⟩
          · have z1 : (p == n3) = false := by simpa using hpe
            have z2 : ((p : Int) == (n3 : Int)) = false := by simp; omega
            have z3 : (p != n3) = true := by simpa using hpe
            have z4 : ((p : Int) != (n3 : Int)) = true := by simp; omega
            have HON := Lib.hid (show o = none by
              rw [hq, if_neg (fun e => by
                have := congrArg List.length e
                rw [List.length_drop, HN3.out] at this
                simp at this; omega)]; rfl)
            clear hj hj2 hq hpe
            go_wp2
            go_ret2
            rw [HON.out]
            exact ⟨rfl, HBA.out⟩
#print axioms refApply_some
#print axioms applyA_any
#print axioms wl_mid
end Go.Proofs.YtbfaaphijgmabaaDoor

namespace Go.Proofs.YtbfaaphijgmabaaDoor
open Go.RowKit My

set_option maxRecDepth 100000 in
set_option maxHeartbeats 1000000 in
theorem refApply_none (s : ByteArray) (a : Option Addr) (n c p : Nat) (w : World) (hs : s.size ≤ 20000000) (hx : runesF s.data.toList = (none, p)) :
    Calls Tryd.prog 17 #[.string s, .slice a n c] w (ApA ([], 5) w) := by
  have R1 := Lib.hid (ref_none s p w (by omega) hx)
  clear hs hx
  go_enter Tryd.func17, Tryd.ntmps17
  go_wp2_with (go_at_call 20; (refine R1.out.mono ?_); rintro en w3 ⟨a3, n3, c3, rfl, hr3, hb3⟩; have HB3 := Lib.hid hb3; clear hr3 hb3)
  go_ret2
  exact ⟨rfl, HB3.out⟩
set_option maxRecDepth 100000 in
set_option maxHeartbeats 2000000 in
theorem refApply_bad (s : ByteArray) (a : Option Addr) (n c : Nat) (L : List EdV) (x : List Nat) (p0 : Nat) (w : World) (hs : s.size ≤ 20000000) (hx : runesF s.data.toList = (some x, p0)) (h : AtG edK w a n c L) (hM : MildS L) (hok : ¬ ∀ e ∈ L, chkE e.s = (0, 0)) :
    Calls Tryd.prog 17 #[.string s, .slice a n c] w (ApA ([], 5) w) := by
  have R1 := Lib.hid (ref_some s x p0 w (by omega) hx)
  have HL := Lib.hid h
  have HLN := Lib.hid h.1
  have HMI := Lib.hid hM
  have HOK := Lib.hid hok
  have hnI : (n : Int) ≤ 100000 := by have := hM.few; have := h.1; omega
  clear hs hx h hM hok
  go_enter Tryd.func17, Tryd.ntmps17
  go_wp2_with (go_at_call 20; (refine R1.out.mono ?_); rintro en w3 ⟨a3, n3, c3, rfl, hr3, hb3⟩; have HB3 := Lib.hid hb3; clear hr3 hb3)
  go_loopg [9] n (fun gh v9 W => ∃ i : Nat, v9 = .int .i64 i ∧ gh + i = n ∧ Hid (Below w3.heap.size w3 W) ∧ Hid (∀ k, k < i → chkE (gd L k).s = (0, 0)))
  case atStart => exact ⟨0, rfl, rfl, Lib.hid (Below.refl _ _), Lib.hid (fun k hk => by omega)⟩
  case round =>
    obtain ⟨i, rfl, hgh, HB, HAL⟩ := hrel
    have HGH := Lib.hid hgh
    have hi0 : (0 : Int) ≤ (i : Int) := by omega
    have hin : (i : Int) ≤ (n : Int) := by omega
    clear hgh
    by_cases hi : (i : Int) < (n : Int)
    · have hib : decide (i < n) = true := by simp; omega
      have HI := Lib.hid (show i < n by omega)
      have HLw := Lib.hid ((HL.out.below HB3.out).below HB.out)
      obtain ⟨b, off, rfl⟩ := HL.out.some_ (by omega)
      have hx := HLw.out.at_ i HI.out
      have hmem := gd_mem (L := L) (i := i) (by rw [HLN.out]; exact HI.out)
      have hxl := HMI.out.s _ hmem
      obtain ⟨x, hxg⟩ : ∃ x, gd L i = x := ⟨_, rfl⟩
      rw [hxg] at hx hxl
      have HXG := Lib.hid hxg
      have x2 : wr.cell? ⟨b, off + i * 3 + 2, none⟩ = some (.string (strB x.s)) := hx 2 (.string (strB x.s)) rfl
      cases hc : isF x.s with
      | true =>
        have CT := Lib.hid (fun W => refIs_any (strB x.s) true W (by rw [strB_size]; omega) (by rw [strB_list]; exact hc))
        have HCH := Lib.hid (isF_no hc)
        clear hx hxg hmem hxl hc
        go_wp2_with (first
          | (go_at_call 31; (refine (CT.out _).mono ?_); rintro en w4 ⟨rfl, hb4⟩; have HB4 := Lib.hid hb4; clear hb4))
        go_roundg (n - (i + 1))
        case measure => have := HGH.out; have := HI.out; omega
        case rel => exact ⟨i + 1, by go_num, by have := HGH.out; have := HI.out; omega, Lib.hid (HB.out.trans (HB4.out.mono HB.out.size)), Lib.hid (fun k hk => (Nat.lt_or_ge k i).elim (fun h => HAL.out k h) (fun h => by rw [show k = i by omega, HXG.out, HCH.out]))⟩
      | false =>
        have CT := Lib.hid (fun W => refIs_any (strB x.s) false W (by rw [strB_size]; omega) (by rw [strB_list]; exact hc))
        clear hx hxg hmem hxl hc
        go_wp2_with (first
          | (go_at_call 31; (refine (CT.out _).mono ?_); rintro en w4 ⟨rfl, hb4⟩; have HB4 := Lib.hid hb4; clear hb4))
        go_ret2
        exact ⟨rfl, HB3.out.trans ((HB.out.trans (HB4.out.mono HB.out.size)).mono HB3.out.size)⟩
    · exact (HOK.out (fun e he => by
        obtain ⟨k, hk, rfl⟩ := List.getElem_of_mem he
        have := HAL.out k (by have := HLN.out; omega)
        have e : gd L k = L[k] := by unfold gd; simp [hk]
        rwa [e] at this)).elim
/-- The document's Apply. -/
theorem refApplyA_any (s : ByteArray) (a : Option Addr) (n c : Nat) (L : List EdV) (w : World) (hs : s.size ≤ 20000000) (h : AtG edK w a n c L) (hM : MildS L) :
    Calls Tryd.prog 17 #[.string s, .slice a n c] w (ApA (apA s.data.toList L) w) := by
  rcases runesF_cases s.data.toList with ⟨x, hx⟩ | ⟨p, hx⟩
  · by_cases hok : ∀ e ∈ L, chkE e.s = (0, 0)
    · rw [apA_some hx hok]
      exact refApply_some s a n c L x _ w hs hx h hM hok
    · rw [apA_bad hx hok]
      exact refApply_bad s a n c L x _ w hs hx h hM hok
  · rw [apA_none hx]
    exact refApply_none s a n c p w hs hx
set_option maxRecDepth 100000 in
set_option maxHeartbeats 2000000 in
theorem refCost_any (a : Option Addr) (n c : Nat) (L : List EdV) (w : World) (h : AtG edK w a n c L) (hM : Mild L) :
    Calls Tryd.prog 19 #[.slice a n c] w (CostIs (costV L) w) := by
  have HL := Lib.hid h
  have HLN := Lib.hid h.1
  have HMI := Lib.hid hM
  have hnI : (n : Int) ≤ 100000 := by have := hM.few; have := h.1; omega
  clear h hM
  go_enter Tryd.func19, Tryd.ntmps19
  go_wp2_with fail
  go_loopg [3, 4] n (fun gh v3 v4 W => ∃ i : Nat, v4 = .int .i64 i ∧ v3 = .int .i64 (costV (L.take i)) ∧ gh + i = n ∧ Hid (Below w.heap.size w W))
  case atStart => exact ⟨0, rfl, rfl, rfl, Lib.hid (Below.refl _ _)⟩
  case round =>
    obtain ⟨i, rfl, rfl, hgh, HB⟩ := hrel
    have HGH := Lib.hid hgh
    have hi0 : (0 : Int) ≤ (i : Int) := by omega
    have hin : (i : Int) ≤ (n : Int) := by omega
    clear hgh
    by_cases hi : (i : Int) < (n : Int)
    · have hib : decide (i < n) = true := by simp; omega
      have HI := Lib.hid (show i < n by omega)
      have HLw := Lib.hid (HL.out.below HB.out)
      obtain ⟨b, off, rfl⟩ := HL.out.some_ (by omega)
      have hx := HLw.out.at_ i HI.out
      have HTG := Lib.hid (take_gd (show i < L.length by rw [HLN.out]; exact HI.out))
      have hmem := gd_mem (L := L) (i := i) (by rw [HLN.out]; exact HI.out)
      have hbd := costV_bd (HMI.out.take i)
      have hd4 := HMI.out.d _ hmem
      have hxs := cnt_le (gd L i).s
      have hxl := HMI.out.s _ hmem
      have htl : (L.take i).length ≤ 100000 := by have := HMI.out.few; rw [List.length_take]; omega
      obtain ⟨x, hxg⟩ : ∃ x, gd L i = x := ⟨_, rfl⟩
      rw [hxg] at hx HTG hd4 hxs hxl
      obtain ⟨cv, hcv⟩ : ∃ k, costV (L.take i) = k := ⟨_, rfl⟩
      rw [hcv] at hbd HTG
      rw [hcv]
      have x1 : wr.cell? ⟨b, off + i * 3 + 1, none⟩ = some (.int .i64 x.d) := hx 1 (.int .i64 x.d) rfl
      have x2 : wr.cell? ⟨b, off + i * 3 + 2, none⟩ = some (.string (strB x.s)) := hx 2 (.string (strB x.s)) rfl
      have hc0 : 0 ≤ cv := hbd.1
      have hc1 : cv ≤ 200000000000000000 := by have := hbd.2; omega
      obtain ⟨dz, hdz⟩ : ∃ z, x.d = z := ⟨_, rfl⟩
      rw [hdz] at x1 hd4 HTG
      have RU := Lib.hid (fun W => show Calls Tryd.prog 20 #[.string (strB x.s)] W fun e w' => ∃ a n c z1 z2, e = .returned (.tuple #[.slice a n c, z1, z2]) ∧ n = (cntE x.s).1 ∧ Below W.heap.size W w' from by
        rcases runesF_cases x.s with ⟨q, hq⟩ | ⟨q, hq⟩
        · exact (ref_some (strB x.s) q _ W (by rw [strB_size]; omega) (by rw [strB_list]; exact hq)).mono fun e w' ⟨a, n, c, h1, h2, h3⟩ => ⟨a, n, c, _, _, h1, by rw [cntE_some hq, ← h2.1, zs_length], h3⟩
        · exact (ref_none (strB x.s) q W (by rw [strB_size]; omega) (by rw [strB_list]; exact hq)).mono fun e w' ⟨a, n, c, h1, h2, h3⟩ => ⟨a, n, c, _, _, h1, by rw [cntE_none hq, ← h2.1]; rfl, h3⟩)
      have hk1 : ((cntE x.s).1 : Int) ≤ 20000000 := by omega
      obtain ⟨cn, hcn⟩ : ∃ k, (cntE x.s).1 = k := ⟨_, rfl⟩
      rw [hcn] at RU HTG hk1
      by_cases hd : 0 < dz
      · have z1 : decide (0 < dz) = true := by simpa using hd
        have HPD := Lib.hid (show posI dz = dz by unfold posI; rw [if_neg (by omega)])
        have hd0 : 0 ≤ dz := by omega
        clear hx hxg hmem hbd hxs hxl htl hcv hcn hdz hd
        go_wp2_with (first
          | (go_at_call 20; (refine (RU.out _).mono ?_); rintro en w4 ⟨a4, n4, c4, z4, z5, rfl, rfl, hb4⟩; have HB4 := Lib.hid hb4; clear hb4))
        go_roundg (n - (i + 1))
        case measure => have := HGH.out; have := HI.out; omega
        case rel => exact ⟨i + 1, by go_num, by rw [HTG.out, HPD.out], by have := HGH.out; have := HI.out; omega, Lib.hid (HB.out.trans (HB4.out.mono HB.out.size))⟩
      · have z1 : decide (0 < dz) = false := by simpa using hd
        have HPD := Lib.hid (show posI dz = 0 by unfold posI; split <;> omega)
        clear hx hxg hmem hbd hxs hxl htl hcv hcn hdz hd
        go_wp2_with (first
          | (go_at_call 20; (refine (RU.out _).mono ?_); rintro en w4 ⟨a4, n4, c4, z4, z5, rfl, rfl, hb4⟩; have HB4 := Lib.hid hb4; clear hb4))
        go_roundg (n - (i + 1))
        case measure => have := HGH.out; have := HI.out; omega
        case rel => exact ⟨i + 1, by go_num, by rw [HTG.out, HPD.out, Int.add_zero], by have := HGH.out; have := HI.out; omega, Lib.hid (HB.out.trans (HB4.out.mono HB.out.size))⟩
    · have hib : decide (i < n) = false := by simp; omega
      have HE := Lib.hid (show costV (L.take i) = costV L by rw [List.take_of_length_le (by rw [HLN.out]; omega)])
      clear hi
      go_wp2
      go_ret
      rw [HE.out]
      exact ⟨rfl, HB.out⟩
#print axioms refApplyA_any
#print axioms refCost_any
end Go.Proofs.YtbfaaphijgmabaaDoor

namespace Go.Proofs.YtbfaaphijgmabaaDoor
open Go.RowKit My

theorem wl_copyE {w : World} {ops : Array Oper} {rest : List Oper} {o : Oper} {a : Act} {Q : Exit → Act → World → Prop} (hw : Region.wanted o (yielded ops a.tmps) = true) (s x : Operand)
    (ho : o.op = .call { callee := .builtin .append, args := #[s, x], argTypes := #[31, 31] })
    (sa : Option Addr) (n c : Nat) (L : List EdV) (hs : a.eval s = .slice (some ⟨w.heap.size, 0, none⟩) 0 0) (hx : a.eval x = .slice sa n c) (hsrc : AtG edK w sa n c L) (hn : n ≤ 100000)
    (h : ∀ a' c' w', AtG edK w' a' n c' L → Below w.heap.size w w' → wpList Tryd.prog ops Q rest (a.put o.dst (.slice a' n c')) w') : wpList Tryd.prog ops Q (o :: rest) a (w.alloc (.cells #[] 39)) := by
  have hbel : Below w.heap.size w (w.alloc (.cells #[] 39)) := (Below.refl _ _).alloc (Nat.le_refl _) _
  have hown : OwnG edK 39 (w.alloc (.cells #[] 39)) w.heap.size (.slice (some ⟨w.heap.size, 0, none⟩) 0 0) ([] : List EdV) := OwnG.lit rfl _ rfl
  unfold wpList
  rw [if_pos hw]
  refine .inl ?_
  exact wp_appG edK Tryd.underlying31 edInfo rfl s x ho w.heap.size _ [] hs hown sa n c L hx (hsrc.below hbel) (by simp; omega) (by simp) n (by simp) (fun a' c' w' h1 h2 => h a' c' w' h1.atG (hbel.grown h2 (by simp) (fun k hk => by cases hk; exact Nat.le_refl _)))
theorem all_gd {L : List EdV} {P : EdV → Prop} (h : ∀ k, k < L.length → P (gd L k)) : ∀ e ∈ L, P e := fun e he => by
  obtain ⟨k, hk, rfl⟩ := List.getElem_of_mem he
  have := h k hk
  have e : gd L k = L[k] := by unfold gd; simp [hk]
  rwa [e] at this
set_option maxRecDepth 100000 in
set_option maxHeartbeats 4000000 in
theorem applies_any (s : ByteArray) (a : Option Addr) (n c : Nat) (L : List EdV) (w : World) (h : AtG edK w a n c L) (hs : s.size ≤ 140737488355328) (hs2 : ∀ e ∈ L, e.s.length ≤ 140737488355328) (hT : Tabs w) :
    Calls Tryd.prog 5 #[.string s, .slice a n c] w (BoolIs true w) := by
  have hsI : (s.size : Int) ≤ 140737488355328 := by omega
  have HL := Lib.hid h
  have HLN := Lib.hid h.1
  have HT := Lib.hid hT
  have HS2 := Lib.hid hs2
  have hn0 : (n : Int) ≤ 9223372036854775807 := by have := h.2.1; have := h.2.2.1; omega
  have AW := Lib.hid (fun W (hb : Below w.heap.size w W) => awake_any W (hT.below hb))
  clear h hT hs2 hs
  by_cases h1 : 2000 < s.size
  · have z1 : decide (2000 < s.size) = true := by simpa using h1
    have z2 : decide ((2000 : Int) < (s.size : Int)) = true := by simp; omega
    clear h1
    go_enter Tryd.func5, Tryd.ntmps5
    go_wp2
    go_ret
    exact ⟨rfl, Below.refl _ _⟩
  · have z1 : decide (2000 < s.size) = false := by simpa using h1
    have z2 : decide ((2000 : Int) < (s.size : Int)) = false := by simp; omega
    have HSZ := Lib.hid (show s.size ≤ 20000000 by omega)
    clear h1
    by_cases h2 : 60 < n
    · have z3 : decide (60 < n) = true := by simpa using h2
      have z4 : decide ((60 : Int) < (n : Int)) = true := by simp; omega
      clear h2
      go_enter Tryd.func5, Tryd.ntmps5
      go_wp2
      go_ret
      exact ⟨rfl, Below.refl _ _⟩
    · have z3 : decide (60 < n) = false := by simpa using h2
      have z4 : decide ((60 : Int) < (n : Int)) = false := by simp; omega
      have hn60 : (n : Int) ≤ 60 := by omega
      clear h2
      go_enter Tryd.func5, Tryd.ntmps5
      go_wp2_with fail
      go_loopg [5] n (fun gh v5 W => ∃ i : Nat, v5 = .int .i64 i ∧ gh + i = n ∧ W = w ∧ Hid (∀ k, k < i → (gd L k).s.length ≤ 200 ∧ (gd L k).d ≤ 1099511627776))
      case atStart => exact ⟨0, rfl, rfl, rfl, Lib.hid (fun k hk => by omega)⟩
      case round =>
        obtain ⟨i, rfl, hgh, rfl, HAL⟩ := hrel
        have HGH := Lib.hid hgh
        have hi0 : (0 : Int) ≤ (i : Int) := by omega
        have hin : (i : Int) ≤ (n : Int) := by omega
        clear hgh
        by_cases hi : (i : Int) < (n : Int)
        · have hib : decide (i < n) = true := by simp; omega
          have HI := Lib.hid (show i < n by omega)
          obtain ⟨b, off, rfl⟩ := HL.out.some_ (by omega)
          have hx := HL.out.at_ i HI.out
          have hmem := gd_mem (L := L) (i := i) (by rw [HLN.out]; exact HI.out)
          have hxl := HS2.out _ hmem
          obtain ⟨x, hxg⟩ : ∃ x, gd L i = x := ⟨_, rfl⟩
          rw [hxg] at hx hxl
          have HXG := Lib.hid hxg
          obtain ⟨sx, hsx⟩ : ∃ b, strB x.s = b := ⟨_, rfl⟩
          have hsz : sx.size = x.s.length := by rw [← hsx, strB_size]
          have HSX := Lib.hid hsz
          have x1 : wr.cell? ⟨b, off + i * 3 + 1, none⟩ = some (.int .i64 x.d) := hx 1 (.int .i64 x.d) rfl
          have x2 : wr.cell? ⟨b, off + i * 3 + 2, none⟩ = some (.string sx) := hsx ▸ hx 2 (.string (strB x.s)) rfl
          have hsxI : (sx.size : Int) ≤ 140737488355328 := by omega
          obtain ⟨dz, hdz⟩ : ∃ z, x.d = z := ⟨_, rfl⟩
          have HDZ := Lib.hid hdz
          rw [hdz] at x1
          by_cases q1 : 200 < sx.size
          · have y1 : decide (200 < sx.size) = true := by simpa using q1
            have y2 : decide ((200 : Int) < (sx.size : Int)) = true := by simp; omega
            clear hx hmem hxl hxg hsx hsz hdz q1
            go_wp2
            go_ret
            exact ⟨rfl, Below.refl _ _⟩
          · have y1 : decide (200 < sx.size) = false := by simpa using q1
            have y2 : decide ((200 : Int) < (sx.size : Int)) = false := by simp; omega
            have HQ1 := Lib.hid q1
            by_cases q2 : 1099511627776 < dz
            · have y3 : decide (1099511627776 < dz) = true := by simpa using q2
              clear hx hmem hxl hxg hsx hsz hdz q1 q2
              go_wp2
              go_ret
              exact ⟨rfl, Below.refl _ _⟩
            · have y3 : decide (1099511627776 < dz) = false := by simpa using q2
              have HQ2 := Lib.hid q2
              clear hx hmem hxl hxg hsx hsz hdz q1 q2
              go_wp2
              go_roundg (n - (i + 1))
              case measure => have := HGH.out; have := HI.out; omega
              case rel => exact ⟨i + 1, by go_num, by have := HGH.out; have := HI.out; omega, rfl, Lib.hid (fun k hk => (Nat.lt_or_ge k i).elim (fun h => HAL.out k h) (fun h => by rw [show k = i by omega, HXG.out]; have := HQ1.out; have := HQ2.out; have := HSX.out; have := HDZ.out; exact ⟨by omega, by omega⟩))⟩
        · have hib : decide (i < n) = false := by simp; omega
          have HMI := Lib.hid (show Mild L from ⟨by have := HLN.out; omega, all_gd (fun k hk => (HAL.out k (by have := HLN.out; omega)).2), all_gd (fun k hk => by have := (HAL.out k (by have := HLN.out; omega)).1; omega)⟩)
          have HN1 := Lib.hid (show n ≤ 100000 by omega)
          obtain ⟨v, hv⟩ : ∃ v, apA s.data.toList L = v := ⟨_, rfl⟩
          have AP := Lib.hid (fun (a1 : Option Addr) c1 W (h1 : AtG edK W a1 n c1 L) (hb : Below wr.heap.size wr W) => hv ▸ applyA_any s a1 n c1 L W HSZ.out h1 HMI.out.soft (HT.out.below hb))
          have RA := Lib.hid (fun W (hb : Below wr.heap.size wr W) => hv ▸ refApplyA_any s a n c L W HSZ.out (HL.out.below hb) HMI.out.soft)
          obtain ⟨cv, hcv⟩ : ∃ v, costV L = v := ⟨_, rfl⟩
          have CO := Lib.hid (fun (a1 : Option Addr) c1 W (h1 : AtG edK W a1 n c1 L) (hb : Below wr.heap.size wr W) => hcv ▸ cost_any a1 n c1 L W h1 HMI.out (HT.out.below hb))
          have RC := Lib.hid (fun W (hb : Below wr.heap.size wr W) => hcv ▸ refCost_any a n c L W (HL.out.below hb) HMI.out)
          obtain ⟨v1, v2⟩ := v
          clear hi hv hcv
          go_wp2_with (first
            | ((with_reducible show wpList _ _ _ (⟨some 43, _, _, _, _, _⟩ :: _) _ _); refine wl_copyE rfl _ _ rfl a n c L rfl rfl HL.out HN1.out ?_; intro a1 c1 w1 hr1 hb1; have HB1 := Lib.hid hb1; have R1 := Lib.hid hr1; clear hr1 hb1)
            | (go_at_call 16; (refine (AP.out _ _ _ R1.out HB1.out).mono ?_); rintro en w2 ⟨rfl, hb2⟩; have HB2 := Lib.hid (HB1.out.trans (hb2.mono HB1.out.size)); clear hb2)
            | (go_at_call 17; (refine (RA.out _ HB2.out).mono ?_); rintro en w3 ⟨rfl, hb3⟩; have HB3 := Lib.hid (HB2.out.trans (hb3.mono HB2.out.size)); clear hb3)
            | ((with_reducible show wpList _ _ _ (⟨some 64, _, _, _, _, _⟩ :: _) _ _); refine wl_copyE rfl _ _ rfl a n c L rfl rfl (HL.out.below HB3.out) HN1.out ?_; intro a4 c4 w4 hr4 hb4; have HB4 := Lib.hid (HB3.out.trans (hb4.mono HB3.out.size)); have R4 := Lib.hid hr4; clear hr4 hb4)
            | (go_at_call 18; (refine (CO.out _ _ _ R4.out HB4.out).mono ?_); rintro en w5 ⟨rfl, hb5⟩; have HB5 := Lib.hid (HB4.out.trans (hb5.mono HB4.out.size)); clear hb5)
            | (go_at_call 19; (refine (RC.out _ HB5.out).mono ?_); rintro en w6 ⟨rfl, hb6⟩; have HB6 := Lib.hid (HB5.out.trans (hb6.mono HB5.out.size)); clear hb6)
            | (go_at_call 12; (refine (AW.out _ HB6.out).mono ?_); rintro en w7 ⟨rfl, hb7⟩; have HB7 := Lib.hid (HB6.out.trans (hb7.mono HB6.out.size)); clear hb7))
          go_ret
          exact ⟨rfl, HB7.out⟩
#print axioms applies_any
end Go.Proofs.YtbfaaphijgmabaaDoor
