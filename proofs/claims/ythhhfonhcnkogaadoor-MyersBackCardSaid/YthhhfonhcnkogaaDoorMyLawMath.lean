/-
  What the laws say of scripts, plainly.
-/
import Derived.Test.YthhhfonhcnkogaaDoorMyAwake
namespace Go.Proofs.YthhhfonhcnkogaaDoor
open Go.RowKit My

theorem eds_bound (ms : List Int) : ∀ (tg : List Int) (c : Er), (eds ms tg c).length ≤ ms.length + 1 ∧ ∀ x ∈ eds ms tg c, x.d ≤ c.d + ms.length ∧ x.a.length ≤ c.a.length + ms.length ∧ (OkTo tg tg.length → OkTo c.a c.a.length → notDrop ms ≤ tg.length → OkTo x.a x.a.length) := by
  induction ms with
  | nil => intro tg c; rw [eds]; exact ⟨by simp, fun x hx => by simp only [List.mem_cons, List.not_mem_nil, or_false] at hx; subst hx; exact ⟨by simp, by simp, fun _ h _ => h⟩⟩
  | cons z ms ih =>
    intro tg c
    have tl : ∀ {t : List Int}, OkTo t t.length → OkTo t.tail t.tail.length := fun {t} h => by
      cases t with
      | nil => exact h
      | cons u r => exact h.tail
    rw [eds]
    split
    · rename_i hz
      obtain ⟨h1, h2⟩ := ih tg ⟨c.k, c.d + 1, c.a⟩
      refine ⟨by simp only [List.length_cons]; omega, fun x hx => ?_⟩
      obtain ⟨b1, b2, b3⟩ := h2 x hx
      simp only at b1 b2 b3
      exact ⟨by simp only [List.length_cons]; omega, by simp only [List.length_cons]; omega, fun p q r => b3 p q (by simpa [notDrop, hz] using r)⟩
    · rename_i hz
      split
      · obtain ⟨h1, h2⟩ := ih tg.tail ⟨c.k, c.d, c.a ++ [tg.headD 0]⟩
        refine ⟨by simp only [List.length_cons]; omega, fun x hx => ?_⟩
        obtain ⟨b1, b2, b3⟩ := h2 x hx
        simp only [List.length_append, List.length_cons, List.length_nil] at b1 b2
        refine ⟨by simp only [List.length_cons]; omega, by simp only [List.length_cons]; omega, fun p q r => ?_⟩
        have hr : 1 + notDrop ms ≤ tg.length := by simpa [notDrop, hz] using r
        refine b3 (tl p) (q.snoc ?_) (by rw [List.length_tail]; omega)
        cases tg with
        | nil => simp at hr
        | cons u t => exact by have := p 0 (by simp); simpa using this
      · split
        · obtain ⟨h1, h2⟩ := ih tg.tail ⟨1, 0, []⟩
          refine ⟨by simp only [List.length_cons]; omega, fun x hx => ?_⟩
          rcases List.mem_cons.1 hx with rfl | hx
          · exact ⟨by simp, by simp, fun _ q _ => q⟩
          · obtain ⟨b1, b2, b3⟩ := h2 x hx
            simp only [List.length_nil] at b1 b2 b3
            refine ⟨by simp only [List.length_cons]; omega, by simp only [List.length_cons]; omega, fun p q r => b3 (tl p) (OkTo.zero _) ?_⟩
            have hr : 1 + notDrop ms ≤ tg.length := by simpa [notDrop, hz] using r
            rw [List.length_tail]; omega
        · obtain ⟨h1, h2⟩ := ih tg.tail ⟨c.k + 1, c.d, c.a⟩
          refine ⟨by simp only [List.length_cons]; omega, fun x hx => ?_⟩
          obtain ⟨b1, b2, b3⟩ := h2 x hx
          simp only at b1 b2 b3
          refine ⟨by simp only [List.length_cons]; omega, by simp only [List.length_cons]; omega, fun p q r => b3 (tl p) q ?_⟩
          have hr : 1 + notDrop ms ≤ tg.length := by simpa [notDrop, hz] using r
          rw [List.length_tail]; omega
theorem edits_bound (x y : List Int) (hy : OkTo y y.length) : (edits (scr x y) y).length ≤ x.length + y.length + 1 ∧ ∀ e ∈ edits (scr x y) y, e.d ≤ x.length + y.length ∧ e.a.length ≤ x.length + y.length ∧ OkTo e.a e.a.length := by
  have hl : (scr x y).length ≤ x.length + y.length := mv_len (E := eq2 x y) _ x.length y.length (Nat.le_refl _)
  obtain ⟨h1, h2⟩ := eds_bound (scr x y) y ⟨0, 0, []⟩
  unfold edits
  split
  · exact ⟨by simp, fun e he => by simp at he⟩
  · refine ⟨by omega, fun e he => ?_⟩
    obtain ⟨b1, b2, b3⟩ := h2 e he
    simp only [List.length_nil] at b1 b2
    exact ⟨by omega, by omega, b3 hy (OkTo.zero _) (Nat.le_of_eq (scr_facts _ x y (Nat.le_refl _)).2)⟩
theorem zs_of {L : List Int} (h : OkTo L L.length) : ∃ M, zs M = L ∧ (∀ n, n ∈ M → mayF n = true) := by
  refine ⟨L.map Int.toNat, ?_, fun n hn => ?_⟩
  · refine List.ext_getElem (by simp [zs]) fun i h1 h2 => ?_
    have := h i h2
    obtain ⟨k, hk, _⟩ := valid_of _ this
    have e : L[i] = (k : Int) := by simpa [h2] using hk
    simp [zs, e]
  · obtain ⟨z, hz, rfl⟩ := List.mem_map.1 hn
    obtain ⟨i, hi, rfl⟩ := List.getElem_of_mem hz
    have := h i hi
    obtain ⟨k, hk, hm⟩ := valid_of _ this
    have e : L[i] = (k : Int) := by simpa [hi] using hk
    rw [e]; exact hm
theorem cnt_txt {L : List Int} (h : OkTo L L.length) : cntE (txt L) = (L.length, 0) := by
  obtain ⟨M, rfl, hM⟩ := zs_of h
  have e : txt (zs M) = textF M := by
    unfold txt
    rw [show (zs M).map Int.toNat = M from List.ext_getElem (by simp [zs]) fun i h1 h2 => by simp [zs]]
  rw [e, cntE_some (runesF_text hM), zs_length]
theorem cost_ev (l : List Er) (h : ∀ e ∈ l, OkTo e.a e.a.length) : costV (l.map ev) = costR l := by
  induction l with
  | nil => rfl
  | cons e l ih =>
    have h1 := ih (fun x hx => h x (List.mem_cons_of_mem _ hx))
    have h2 := cnt_txt (h e (by simp))
    simp only [List.map_cons, costV, costR, h1]
    show posI (e.d : Int) + ((cntE (txt e.a)).1 : Int) + _ = _
    rw [h2]
    unfold posI
    rw [if_neg (by omega)]
    omega
theorem mild_ev (x y : List Int) (hy : OkTo y y.length) (hl : x.length + y.length ≤ 8192) : Mild ((edits (scr x y) y).map ev) := by
  obtain ⟨h1, h2⟩ := edits_bound x y hy
  refine ⟨by rw [List.length_map]; omega, fun e he => ?_, fun e he => ?_⟩
  · obtain ⟨r, hr, rfl⟩ := List.mem_map.1 he
    have := (h2 r hr).1
    show (r.d : Int) ≤ _
    omega
  · obtain ⟨r, hr, rfl⟩ := List.mem_map.1 he
    have := (h2 r hr).2.1
    have h3 := txt_le r.a
    show (txt r.a).length ≤ _
    omega
theorem cost_edits (x y : List Int) (hy : OkTo y y.length) : costV ((edits (scr x y) y).map ev) = dist x y := by
  rw [cost_ev _ (fun e he => ((edits_bound x y hy).2 e he).2.2), edits_cost]
theorem diff_some {a b : List UInt8} {x y : List Nat} {p q : Nat} (hx : runesF a = (some x, p)) (hy : runesF b = (some y, q)) (hl : a.length ≤ 4096 ∧ b.length ≤ 4096) : diffF a b = ((edits (scr (zs x) (zs y)) (zs y)).map ev, 0) := by
  unfold diffF
  rw [hx, hy]
  have h1 := runesF_len hx
  have h2 := runesF_len hy
  exact if_neg (by omega)
theorem diff_none {a b : List UInt8} (h : (cntE a).2 = 5 ∨ (cntE b).2 = 5) : diffF a b = ([], 5) := by
  unfold diffF
  rcases runesF_cases a with ⟨x, hx⟩ | ⟨p, hx⟩
  · rcases runesF_cases b with ⟨y, hy⟩ | ⟨q, hy⟩
    · rw [cntE_some hx, cntE_some hy] at h; simp at h
    · rw [hx, hy]
  · rw [hx]
#print axioms cost_edits
end Go.Proofs.YthhhfonhcnkogaaDoor
