/-
  The text of a tree's elements, plainly; the walk of the document's Text.
-/
import Derived.Test.YtmenhbdapikpeaaTreeRefOrd
namespace Go.Proofs.Ytmenhbdapikpeaa
open Go.RowKit

/-- The runes of those that aren't dead. -/
def liveT (L : List NodeV) (l : List Nat) : List Int := l.flatMap fun i => if (nd L i).d then [] else [(nd L i).r]
def textT (L : List NodeV) (l : List Nat) : List UInt8 := textF ((liveT L l).map Int.toNat)
theorem live_next (L : List NodeV) {l : List Nat} {j : Nat} (hj : j < l.length) : liveT L (l.take (j + 1)) = liveT L (l.take j) ++ (if (nd L (l.getD j 0)).d then [] else [(nd L (l.getD j 0)).r]) := by
  unfold liveT
  rw [List.take_succ_eq_append_getElem hj, List.flatMap_append]
  have : l.getD j 0 = l[j] := by simp [hj]
  rw [this]
  simp
theorem text_dead {L : List NodeV} {l : List Nat} {j : Nat} (hj : j < l.length) (hd : (nd L (l.getD j 0)).d = true) : textT L (l.take (j + 1)) = textT L (l.take j) := by
  unfold textT; rw [live_next L hj, hd]; simp
theorem text_live {L : List NodeV} {l : List Nat} {j m : Nat} (hj : j < l.length) (hd : (nd L (l.getD j 0)).d = false) (hr : (nd L (l.getD j 0)).r = (m : Int)) : textT L (l.take (j + 1)) = textT L (l.take j) ++ encF m := by
  unfold textT; rw [live_next L hj, hd, if_neg (by simp), List.map_append, textF_append, hr]
  simp [textF]
theorem text_len (L : List NodeV) (l : List Nat) : (textT L l).length ≤ 4 * l.length := by
  have h1 : (liveT L l).length ≤ l.length := by
    unfold liveT
    induction l with
    | nil => simp
    | cons x t ih =>
      rw [List.flatMap_cons, List.length_append, List.length_cons]
      have : (if (nd L x).d then ([] : List Int) else [(nd L x).r]).length ≤ 1 := by split <;> simp
      omega
  have h2 : ∀ M : List Nat, (textF M).length ≤ 4 * M.length := by
    intro M
    induction M with
    | nil => simp [textF]
    | cons z M ih =>
      have e : textF (z :: M) = encF z ++ textF M := rfl
      have e2 := encF_length z
      rw [e, List.length_append, List.length_cons]
      repeat' split at e2
      all_goals omega
  have h3 := h2 ((liveT L l).map Int.toNat)
  unfold textT
  rw [List.length_map] at h3
  omega

theorem encF_le4 (m : Nat) : (encF m).length ≤ 4 := by
  rw [encF_length]
  repeat' split
  all_goals omega
theorem refBytes_v (V : Int) (m : Nat) (h : V = (m : Int)) (hm : mayF m = true) (w : World) : Calls Try.prog 29 #[.int .i32 V] w (Made w (encF m)) := by
  subst h; exact refBytes_any m (mayF_lt hm) w
theorem getD_mem {l : List Nat} {j : Nat} (hj : j < l.length) : l.getD j 0 ∈ l := by
  have : l.getD j 0 = l[j] := by simp [hj]
  rw [this]; exact List.getElem_mem hj

set_option maxRecDepth 100000 in
set_option maxHeartbeats 4000000 in
theorem refTreeText_any (a : Option Addr) (n c : Nat) (L : List NodeV) (w : World) (h : NodesAt w a n c L) (hn : n ≤ 1000) (hR : RightT L) (l : List Nat) (hl : OrdT L l) :
    Calls Try.prog 17 #[.slice a n c] w fun e w' => e = .returned (.string (strB (textT L l))) ∧ Below w.heap.size w w' := by
  have HL := Lib.hid h.1
  have HN := Lib.hid h
  have HR := Lib.hid hR
  have HO := Lib.hid hl
  have hnI : (n : Int) ≤ 1000 := by omega
  have hn0 : (0 : Int) ≤ (n : Int) := by omega
  have HM := Lib.hid hn
  have OR : Hid (Calls Try.prog 16 #[.slice a n c] w fun e w' => ∃ a1 c1, e = .returned (.slice a1 n c1) ∧ Own1 N 3 w' w.heap.size (.slice a1 n c1) l ∧ Below w.heap.size w w') := Lib.hid ((refOrder_any a n c L w h hn hR.2).mono (by
    rintro e w' ⟨a1, c1, l', rfl, h1, h2, h3⟩
    rw [ordT_unique hl h1]
    rw [h.1] at h2 ⊢
    exact ⟨a1, c1, rfl, h2, h3⟩))
  clear h hn hR hl
  go_enter Try.func17, Try.ntmps17
  go_wp2_with (go_at_call 16; (with_reducible refine OR.out.mono ?_); rintro e w1 ⟨a1, c1, rfl, ho1, hb1⟩; have HO1 := Lib.hid ho1; have HB1 := Lib.hid hb1; clear ho1 hb1)
  have HLL := Lib.hid (show l.length = n from HO1.out.len)
  go_loopg [4, 5] n (fun g v4 v5 W => ∃ j : Nat, Below w1.heap.size w1 W ∧ v5 = .int .i64 j ∧ g + j = n ∧ ∃ a' n' c', v4 = .slice a' n' c' ∧ Hid (Own W w1.heap.size (.slice a' n' c') (textT L (l.take j))))
  case atStart => exact ⟨0, Below.refl _ _, rfl, rfl, none, 0, 0, rfl, Lib.hid (Own.nil _ _)⟩
  case round =>
    obtain ⟨j, hbw, rfl, hg, a', n', c', rfl, HT⟩ := hrel
    have HG := Lib.hid hg
    have HB := Lib.hid hbw
    have hj0 : (0 : Int) ≤ (j : Int) := by omega
    have hjI : (j : Int) ≤ (n : Int) := by omega
    by_cases hj : (j : Int) < (n : Int)
    · have hjn : j < n := by omega
      have HJ := Lib.hid hjn
      have HJL := Lib.hid (show j < l.length by rw [HLL.out]; exact hjn)
      obtain ⟨g, rfl, _⟩ := HO1.out.row (by omega)
      have cx := (HO1.out.at1.below hbw).cell j hjn
      rw [Nat.zero_add] at cx
      obtain ⟨x, hx⟩ : ∃ x, x = l.getD j 0 := ⟨_, rfl⟩
      have hxL : x < L.length := (HO.out.2 x).1 (by rw [hx]; exact getD_mem HJL.out)
      have hxn : x < n := by rw [← HL.out]; exact hxL
      rw [← hx] at cx
      unfold N at cx
      have hx0 : (0 : Int) ≤ (x : Int) := by omega
      have hxI : (x : Int) < (n : Int) := by omega
      obtain ⟨b, o, rfl⟩ := HN.out.some_ (by omega)
      have HNr := Lib.hid ((HN.out.below HB1.out).below (hbw.mono (Nat.le_refl _)))
      have cd := HNr.out.dead x hxn
      have cr := HNr.out.run x hxn
      have HX := Lib.hid hx
      have hv := HR.out.1 x hxL
      obtain ⟨d, hd⟩ : ∃ d, d = (nd L x).d := ⟨_, rfl⟩
      obtain ⟨r, hr⟩ : ∃ r, r = (nd L x).r := ⟨_, rfl⟩
      rw [← hd] at cd
      rw [← hr] at cr hv
      obtain ⟨m, hm, hmay⟩ := valid_of _ hv
      have BY := Lib.hid (fun W => refBytes_v r m hm hmay W)
      have HD := Lib.hid hd
      have HRr := Lib.hid (hr.symm.trans hm)
      have HTL := Lib.hid (text_len L (l.take j))
      have HEN := Lib.hid (encF_le4 m)
      clear hg hx hxL hd hr hm hmay hv
      cases d
      · have HT2 := Lib.hid (text_live (L := L) (l := l) (j := j) HJL.out (by rw [← HX.out]; exact HD.out.symm) (by rw [← HX.out]; exact HRr.out))
        go_wp2_with (first
          | (go_at_call 29; (with_reducible refine (BY.out _).mono ?_); rintro e w2 ⟨a2, n2, c2, rfl, ho2, hb2⟩; have HO2 := Lib.hid ho2; have HB2 := Lib.hid hb2; have HSZ := Lib.hid (Nat.le_trans HB.out.size hb2.size); have HT3 := Lib.hid (HT.out.below hb2); clear ho2 hb2)
          | (at_builtin; go_must (refine app_bytes rfl (.tmp 23) (.tmp 32) rfl w1.heap.size _ _ rfl HT3.out _ n2 c2 _ rfl HO2.out.isBytes (by have h1 := HTL.out; have h2 := HO2.out.len; have h3 := HEN.out; have h4 := HLL.out; have h5 := HM.out; rw [List.length_take] at h1; rw [h2]; omega) HSZ.out ?_); intro v3 w3 ho3 hg3))
        go_roundg (n - (j + 1))
        case measure => have := HG.out; have := HJ.out; omega
        case rel =>
          obtain ⟨a3, n3, c3, rfl, _⟩ := ho3.bytes
          refine ⟨j + 1, ?_, by go_num, by have := HJ.out; omega, a3, n3, c3, rfl, Lib.hid (by rw [HT2.out]; exact ho3)⟩
          exact (HB.out.trans (HB2.out.mono HB.out.size)).grown hg3 HSZ.out (fun k hk => HT3.out.grown k hk)
      · have HT2 := Lib.hid (text_dead (L := L) (l := l) (j := j) HJL.out (by rw [← HX.out]; exact HD.out.symm))
        go_wp2
        go_roundg (n - (j + 1))
        case measure => have := HG.out; have := HJ.out; omega
        case rel => exact ⟨j + 1, HB.out, by go_num, by have := HJ.out; omega, a', n', c', rfl, Lib.hid (by rw [HT2.out]; exact HT.out)⟩
    · have hjn : j = n := by omega
      subst hjn
      have HE := Lib.hid (show l.take j = l from List.take_of_length_le (by rw [HLL.out]; exact Nat.le_refl _))
      have hs := run_str HT.out.isBytes 9 Try.underlying9
      rw [HE.out] at hs
      clear hg
      go_wp2
      go_ret
      exact ⟨rfl, HB1.out.trans (HB.out.mono HB1.out.size)⟩
#print axioms refTreeText_any
end Go.Proofs.Ytmenhbdapikpeaa
