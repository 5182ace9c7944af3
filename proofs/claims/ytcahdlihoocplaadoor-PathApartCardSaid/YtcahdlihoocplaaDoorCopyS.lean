/-
  A copy of a slice of texts.
-/
import Derived.Test.YtcahdlihoocplaaDoorOneG
namespace Go.Proofs.YtcahdlihoocplaaDoor
open Go.RowKit

/-- A copy: all of a slice, appended to an empty one made anew. -/
theorem wl_copyS {w : World} {ops : Array Oper} {rest : List Oper} {o : Oper} {a : Act} {Q : Exit → Act → World → Prop} (hw : Region.wanted o (yielded ops a.tmps) = true) (s x : Operand)
    (ho : o.op = .call { callee := .builtin .append, args := #[s, x], argTypes := #[24, 24] })
    (sa : Option Addr) (n c : Nat) (L : List (List UInt8)) (hs : a.eval s = .slice (some ⟨w.heap.size, 0, none⟩) 0 0) (hx : a.eval x = .slice sa n c) (hsrc : At1 St w sa n c L) (hn : n ≤ 1000000000)
    (h : ∀ a' c' w', At1 St w' a' n c' L → Below w.heap.size w w' → wpList Tryd.prog ops Q rest (a.put o.dst (.slice a' n c')) w') : wpList Tryd.prog ops Q (o :: rest) a (w.alloc (.cells #[] 9)) := by
  have hbel : Below w.heap.size w (w.alloc (.cells #[] 9)) := (Below.refl _ _).alloc (Nat.le_refl _) _
  have hown : Own1 St 9 (w.alloc (.cells #[] 9)) w.heap.size (.slice (some ⟨w.heap.size, 0, none⟩) 0 0) [] := World.ownsRow_lit w #[] 0 (Nat.le_refl _) (Nat.zero_le _) rfl
  have hsz : w.heap.size ≤ (w.alloc (.cells #[] 9)).heap.size := by simp
  obtain ⟨i0, hi, hz0, hz1, hz2⟩ := info_parts infoSt
  obtain ⟨h1, h2, h3, h4⟩ := hsrc.below hbel
  have fin : ∀ v' w', (Builtin.append_ #[24, 24] o.type #[.slice (some ⟨w.heap.size, 0, none⟩) 0 0, .slice sa n c]).run Tryd.prog (w.alloc (.cells #[] 9)) = .ok v' w' →
      Own1 St 9 w' w.heap.size v' L → (w.alloc (.cells #[] 9)).grownBy w' (some w.heap.size) → wpList Tryd.prog ops Q (o :: rest) a (w.alloc (.cells #[] 9)) := by
    intro v' w' hr hO hg
    obtain ⟨a', c', rfl, hat⟩ := hO.at1_
    rw [h1] at hr hat
    unfold wpList
    rw [if_pos hw]
    refine .inl ?_
    exact Lib.wp_append_run _ s x _ _ ho _ _ hs hx _ _ hr (h a' c' w' hat (hbel.grown hg hsz (fun k hk => by cases hk; exact Nat.le_refl _)))
  rcases h4 with ⟨rfl, rfl⟩ | ⟨b, off, rfl, hc⟩
  · have : L = [] := List.length_eq_zero_iff.1 h1
    subst this
    cases sa with
    | none => exact fin _ _ (run_append_owned_none (P := Tryd.prog) _ w.heap.size 24 o.type 9 i0 1 Tryd.underlying24 hi _ 0 _ hown) hown ⟨rfl, rfl, rfl, Nat.le_refl _, fun _ _ _ => rfl⟩
    | some ad =>
      obtain ⟨v', w', hr, h5, h6, _⟩ := run_append_own (P := Tryd.prog) _ w.heap.size 24 o.type 9 i0 _ 1 16 Tryd.underlying24 hi hz0 hz1 hz2 rfl (by decide) _ 0 _ hown ad 0 0 [] (by simp) (by simp) (by simp) (by unfold maxLen; omega) (by omega) hsz
      exact fin v' w' hr h5 h6
  · obtain ⟨v', w', hr, h5, h6, _⟩ := run_append_own (P := Tryd.prog) _ w.heap.size 24 o.type 9 i0 _ 1 16 Tryd.underlying24 hi hz0 hz1 hz2 rfl (by decide) _ 0 _ hown ⟨b, off, none⟩ n c (L.map St) (by simp [h1]) (fun j u hu => by
      rw [List.getElem?_map] at hu
      have hj : j < L.length := by
        rcases Nat.lt_or_ge j L.length with h | h
        · exact h
        · rw [List.getElem?_eq_none h] at hu; cases hu
      have := hc j (by omega)
      simp only [List.getElem?_eq_getElem hj, Option.map_some, Option.some.injEq] at hu
      subst hu
      rw [Addr.add_lit, this]
      simp [hj]) (fun u hu => by obtain ⟨x, _, rfl⟩ := List.mem_map.1 hu; rfl) (by unfold maxLen; omega) (by omega) hsz
    refine fin v' w' hr ?_ h6
    unfold Own1
    have e : 0 + n = L.length := by omega
    rw [e] at h5
    exact h5

end Go.Proofs.YtcahdlihoocplaaDoor
