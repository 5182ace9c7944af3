/-
  The walk of the document's next: of a parent's children that are not told yet the one with the last key.
-/
import Derived.Test.YtmenhbdapikpeaaTreeRight
namespace Go.Proofs.Ytmenhbdapikpeaa
open Go.RowKit

/-- A bool, told by 1. -/
def Bl (x : Nat) : Value := .bool (x == 1)
theorem infoBl : (Try.prog.info? 4).map (fun i => (i.zero, i.size, i.bytes)) = some (some (Bl 0), 1, 1) := by kernel_rfl
/-- Which one, of the first so many. -/
def NextTo (L : List NodeV) (T : List Nat) (q : Int) (m : Nat) (z : Int) : Prop :=
  (z = -1 ∧ ∀ c, c < m → (nd L c).p = q → T.getD c 0 = 1) ∨ ∃ k : Nat, z = (k : Int) ∧ k < m ∧ (nd L k).p = q ∧ T.getD k 0 ≠ 1 ∧ ∀ c, c < m → (nd L c).p = q → T.getD c 0 ≠ 1 → keyF (nd L c).k (nd L k).k ≤ 0
theorem nextTo_zero (L : List NodeV) (T : List Nat) (q : Int) : NextTo L T q 0 (-1) := .inl ⟨rfl, fun c h => by omega⟩
theorem NextTo.skip {L : List NodeV} {T : List Nat} {q z : Int} {m : Nat} (h : NextTo L T q m z) (hs : (nd L m).p = q → T.getD m 0 = 1) : NextTo L T q (m + 1) z := by
  rcases h with ⟨h1, h2⟩ | ⟨k, h1, h2, h3, h4, h5⟩
  · refine .inl ⟨h1, fun c hc hp => ?_⟩
    rcases Nat.lt_or_ge c m with h | h
    · exact h2 c h hp
    · obtain rfl : c = m := by omega
      exact hs hp
  · refine .inr ⟨k, h1, by omega, h3, h4, fun c hc hp ht => ?_⟩
    rcases Nat.lt_or_ge c m with h | h
    · exact h5 c h hp ht
    · obtain rfl : c = m := by omega
      exact absurd (hs hp) ht
theorem NextTo.keep {L : List NodeV} {T : List Nat} {q : Int} {m k : Nat} (h : NextTo L T q m k) (hk : ¬ 0 < keyF (nd L m).k (nd L k).k) : NextTo L T q (m + 1) k := by
  rcases h with ⟨h1, h2⟩ | ⟨k', h1, h2, h3, h4, h5⟩
  · omega
  · obtain rfl : k = k' := by omega
    refine .inr ⟨k, rfl, by omega, h3, h4, fun c hc hp ht => ?_⟩
    rcases Nat.lt_or_ge c m with h | h
    · exact h5 c h hp ht
    · obtain rfl : c = m := by omega
      omega
theorem NextTo.take {L : List NodeV} {T : List Nat} {q z : Int} {m : Nat} (h : NextTo L T q m z) (hp : (nd L m).p = q) (ht : T.getD m 0 ≠ 1) (hz : z = -1 ∨ ∃ k : Nat, z = (k : Int) ∧ 0 < keyF (nd L m).k (nd L k).k) : NextTo L T q (m + 1) m := by
  refine .inr ⟨m, rfl, by omega, hp, ht, fun c hc hp' ht' => ?_⟩
  rcases Nat.lt_or_ge c m with h6 | h6
  · rcases h with ⟨h1, h2⟩ | ⟨k', h1, h2, h3, h4, h5⟩
    · exact absurd (h2 c h6 hp') ht'
    · rcases hz with hz | ⟨k, hz, hk⟩
      · omega
      · obtain rfl : k = k' := by omega
        have h7 := h5 c h6 hp' ht'
        have h8 := keyF_anti (nd L m).k (nd L k).k
        exact (keyF_trans h7 (by omega)).1
  · obtain rfl : c = m := by omega
    rw [keyF_self]; omega

def NextIs (L : List NodeV) (T : List Nat) (q : Int) (w : World) (e : Ending) (w' : World) : Prop := ∃ z : Int, e = .returned (.int .i64 z) ∧ NextTo L T q L.length z ∧ Below w.heap.size w w'

set_option maxRecDepth 100000 in
set_option maxHeartbeats 4000000 in
theorem refNext_any (a : Option Addr) (n c : Nat) (L : List NodeV) (aT : Option Addr) (cT : Nat) (T : List Nat) (q : Int) (w : World) (h : NodesAt w a n c L) (hT : At1 Bl w aT n cT T) (hn : n ≤ 1000) :
    Calls Try.prog 28 #[.slice a n c, .slice aT n cT, .int .i64 q] w (NextIs L T q w) := by
  have HL := Lib.hid h.1
  have HN := Lib.hid h
  have HT := Lib.hid hT
  have hnI : (n : Int) ≤ 1000 := by omega
  have HM := Lib.hid hn
  clear h hn hT
  go_enter Try.func28, Try.ntmps28
  go_wp2
  go_loopg [7, 8] n (fun g v7 v8 W => ∃ i : Nat, ∃ z : Int, Below w.heap.size w W ∧ v7 = .int .i64 z ∧ v8 = .int .i64 i ∧ g + i = n ∧ Hid (NextTo L T q i z))
  case atStart => exact ⟨0, -1, Below.refl _ _, rfl, rfl, rfl, Lib.hid (nextTo_zero L T q)⟩
  case round =>
    obtain ⟨i, z, hbw, rfl, rfl, hg, HZ⟩ := hrel
    have HG := Lib.hid hg
    have HB := Lib.hid hbw
    have hi0 : (0 : Int) ≤ (i : Int) := by omega
    have hiI : (i : Int) ≤ (n : Int) := by omega
    by_cases hi : (i : Int) < (n : Int)
    · have hin : i < n := by omega
      have HI := Lib.hid hin
      obtain ⟨b, o, rfl⟩ := HN.out.some_ (by omega)
      obtain ⟨bT, oT, rfl⟩ := HT.out.some_ (by omega)
      have HNr := Lib.hid (HN.out.below hbw)
      have cp := HNr.out.par i hin
      have ct := (HT.out.below hbw).cell i hin
      unfold Bl at ct
      have HX := Lib.hid (HN.out.ok hin).1
      obtain ⟨p, hp⟩ : ∃ p, p = (nd L i).p := ⟨_, rfl⟩
      obtain ⟨t, ht⟩ : ∃ t, t = T.getD i 0 := ⟨_, rfl⟩
      rw [← hp] at cp
      rw [← ht] at ct
      have HP := Lib.hid hp
      have HTi := Lib.hid ht
      clear hg hp ht
      cases hb : (t == 1)
      · rw [hb] at ct
        have HT1 := Lib.hid (show t ≠ 1 by simpa using hb)
        clear hb
        by_cases hq : p = q
        · have dq : (p != q) = false := by simp [hq]
          have HPQ := Lib.hid hq
          clear hq
          by_cases hz : z = -1
          · subst hz
            have HZ2 := Lib.hid (HZ.out.take (by rw [← HP.out]; exact HPQ.out) (by rw [← HTi.out]; exact HT1.out) (.inl rfl))
            go_wp2
            go_quiet (fail)
            have HB2 := Lib.hid (below_drewK HB.out nq)
            generalize wr.drewN nq = w9 at HB2 ⊢
            go_wp2
            go_roundg (n - (i + 1))
            case measure => have := HG.out; have := HI.out; omega
            case rel => exact ⟨i + 1, _, HB2.out, rfl, by go_num, by have := HI.out; omega, HZ2⟩
          · obtain ⟨m, rfl⟩ : ∃ m : Nat, z = (m : Int) := by
              rcases HZ.out with ⟨h, _⟩ | ⟨m, h, _⟩
              · exact absurd h hz
              · exact ⟨m, h⟩
            have hmn : m < n := by
              rcases HZ.out with ⟨h, _⟩ | ⟨m', h, h2, _⟩
              · exact absurd h hz
              · omega
            have hm0 : (0 : Int) ≤ (m : Int) := by omega
            have hmI : (m : Int) < (n : Int) := by omega
            have hmf : decide ((m : Int) < 0) = false := decide_eq_false (by omega)
            have HNm := Lib.hid (HN.out.below hbw.drew)
            have HCm := Lib.hid (HNm.out.key m hmn)
            have HCi := Lib.hid (HNm.out.key i HI.out)
            have HXm := Lib.hid (HN.out.ok hmn).1
            obtain ⟨y, hy⟩ : ∃ y, y = keyF (nd L i).k (nd L m).k := ⟨_, rfl⟩
            have HY := Lib.hid hy
            have KA := Lib.hid (fun W => refKeys_is _ _ y hy.symm W HX.out HXm.out)
            clear hz hy
            by_cases hy0 : 0 < y
            · have HZ2 := Lib.hid (HZ.out.take (by rw [← HP.out]; exact HPQ.out) (by rw [← HTi.out]; exact HT1.out) (.inr ⟨m, rfl, by rw [← HY.out]; exact hy0⟩))
              go_wp2
              refine wp_region_still_tail 13 (by kernel_rfl) (by kernel_rfl) ?_
              simp only [List.take_succ_cons, List.take_zero, List.drop_succ_cons, List.drop_zero]
              iterate 7 still_step
              refine still_w (by rfl) (exec_loadKey _ rfl _ _ _ HX.out rfl HCi.out) ?_
              simp only [Act.put, List.setIfInBounds_toArray, List.set_cons_zero, List.set_cons_succ]
              iterate 4 still_step
              refine still_w (by rfl) (exec_loadKey _ rfl _ _ _ HXm.out rfl HCm.out) ?_
              simp only [Act.put, List.setIfInBounds_toArray, List.set_cons_zero, List.set_cons_succ]
              refine wpStill_nil ?_
              change wpList _ _ _ _ _ wr.drew
              have HB2 := Lib.hid HB.out.drew
              generalize wr.drew = w2 at HB2 ⊢
              go_wp2_with (go_at_call 22; (with_reducible refine (KA.out _).mono ?_); rintro e w3 ⟨rfl, hb3⟩; have HB3 := Lib.hid (HB2.out.trans (hb3.mono HB2.out.size)); clear hb3)
              go_roundg (n - (i + 1))
              case measure => have := HG.out; have := HI.out; omega
              case rel => exact ⟨i + 1, _, HB3.out, rfl, by go_num, by have := HI.out; omega, HZ2⟩
            · have HZ2 := Lib.hid (HZ.out.keep (by rw [← HY.out]; exact hy0))
              have dy : decide (0 < y) = false := decide_eq_false hy0
              clear hy0
              go_wp2
              refine wp_region_still_tail 13 (by kernel_rfl) (by kernel_rfl) ?_
              simp only [List.take_succ_cons, List.take_zero, List.drop_succ_cons, List.drop_zero]
              iterate 7 still_step
              refine still_w (by rfl) (exec_loadKey _ rfl _ _ _ HX.out rfl HCi.out) ?_
              simp only [Act.put, List.setIfInBounds_toArray, List.set_cons_zero, List.set_cons_succ]
              iterate 4 still_step
              refine still_w (by rfl) (exec_loadKey _ rfl _ _ _ HXm.out rfl HCm.out) ?_
              simp only [Act.put, List.setIfInBounds_toArray, List.set_cons_zero, List.set_cons_succ]
              refine wpStill_nil ?_
              change wpList _ _ _ _ _ wr.drew
              have HB2 := Lib.hid HB.out.drew
              generalize wr.drew = w2 at HB2 ⊢
              go_wp2_with (go_at_call 22; (with_reducible refine (KA.out _).mono ?_); rintro e w3 ⟨rfl, hb3⟩; have HB3 := Lib.hid (HB2.out.trans (hb3.mono HB2.out.size)); clear hb3)
              go_roundg (n - (i + 1))
              case measure => have := HG.out; have := HI.out; omega
              case rel => exact ⟨i + 1, _, HB3.out, rfl, by go_num, by have := HI.out; omega, HZ2⟩
        · have dq : (p != q) = true := by simp [hq]
          have HZ2 := Lib.hid (HZ.out.skip (fun h => absurd (HP.out.trans h) hq))
          clear hq
          go_wp2
          go_roundg (n - (i + 1))
          case measure => have := HG.out; have := HI.out; omega
          case rel => exact ⟨i + 1, _, HB.out, rfl, by go_num, by have := HI.out; omega, HZ2⟩
      · rw [hb] at ct
        have HZ2 := Lib.hid (HZ.out.skip (fun _ => by rw [← HTi.out]; simpa using hb))
        clear hb
        go_wp2
        go_roundg (n - (i + 1))
        case measure => have := HG.out; have := HI.out; omega
        case rel => exact ⟨i + 1, _, HB.out, rfl, by go_num, by have := HI.out; omega, HZ2⟩
    · have hin : i = n := by omega
      subst hin
      clear hg
      go_wp2
      go_ret
      exact ⟨z, rfl, by rw [HL.out]; exact HZ.out, HB.out⟩
#print axioms refNext_any
end Go.Proofs.Ytmenhbdapikpeaa
