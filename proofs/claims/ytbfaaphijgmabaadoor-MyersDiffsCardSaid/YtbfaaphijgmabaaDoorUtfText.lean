/-
  The walks of Text, the program's and the document's.
-/
import Derived.Test.YtbfaaphijgmabaaDoorUtfEnc
import Derived.Test.YtbfaaphijgmabaaDoorUtfGet
import Derived.Test.YtbfaaphijgmabaaDoorUtfBuild
import Derived.Test.YtbfaaphijgmabaaDoorUtfSame
import Derived.Test.YtbfaaphijgmabaaDoorUtfOne
namespace Go.Proofs.YtbfaaphijgmabaaDoor
open Go.RowKit

/-- The first so many runes are runes. -/
def OkTo (L : List Int) (j : Nat) : Prop := ∀ i, i < j → Lib.validRune (L.getD i 0) = true
/-- The text of the first so many. -/
def txt (L : List Int) : List UInt8 := textF (L.map Int.toNat)
/-- What Text answers. -/
def txtE (L : List Int) : List UInt8 × Nat := if L.all Lib.validRune = true then (txt L, 0) else ([], 5)

theorem OkTo.zero (L : List Int) : OkTo L 0 := fun i hi => by omega
theorem OkTo.next {L : List Int} {j : Nat} (h : OkTo L j) (hv : Lib.validRune (L.getD j 0) = true) : OkTo L (j + 1) := fun i hi => by
  rcases Nat.lt_or_ge i j with h1 | h1
  · exact h i h1
  · obtain rfl : i = j := by omega
    exact hv
theorem txtE_no {L : List Int} {j : Nat} (hj : j < L.length) (hv : Lib.validRune (L.getD j 0) = false) : txtE L = ([], 5) := by
  unfold txtE
  rw [if_neg]
  intro h
  have := List.all_eq_true.1 h (L.getD j 0) (by simp [hj])
  rw [hv] at this
  cases this
theorem txtE_yes {L : List Int} (h : OkTo L L.length) : txtE L = (txt L, 0) := by
  unfold txtE
  rw [if_pos]
  rw [List.all_eq_true]
  intro z hz
  obtain ⟨i, hi, rfl⟩ := List.getElem_of_mem hz
  have := h i hi
  simpa [hi] using this
theorem txt_next {L : List Int} {j n : Nat} (hj : j < L.length) (hv : L.getD j 0 = (n : Int)) : txt (L.take (j + 1)) = txt (L.take j) ++ encF n := by
  unfold txt
  rw [List.take_succ_eq_append_getElem hj, List.map_append, textF_append]
  have e : L[j] = (n : Int) := by simpa [hj] using hv
  rw [e]
  simp [textF]
theorem txt_le (L : List Int) : (txt L).length ≤ 4 * L.length := by
  unfold txt
  induction L with
  | nil => simp [textF]
  | cons z L ih =>
    have e : textF ((z :: L).map Int.toNat) = encF z.toNat ++ textF (L.map Int.toNat) := rfl
    rw [e, List.length_append, List.length_cons]
    have := encF_pos z.toNat
    omega

theorem StrE.mk {l : List UInt8} {c : Nat} {w w' : World} (h : w = w') : StrE l c w (.returned (.tuple #[.string (strB l), .int .i64 c])) w' := ⟨rfl, h⟩

/-- A text and an error's number; what was there stands. -/
def TxtIs (r : List UInt8 × Nat) (w : World) (e : Ending) (w' : World) : Prop := e = .returned (.tuple #[.string (strB r.1), .int .i64 r.2]) ∧ Below w.heap.size w w'

theorem encode_yes (V : Int) (n : Nat) (h : V = (n : Int)) (hm : mayF n = true) (w : World) : Calls Tryd.prog 40 #[.int .i32 V] w fun e w' => e = .returned (.tuple #[.string (strB (encF n)), .int .i64 0]) ∧ w = w' := by
  subst h; exact encode_ok n hm w
theorem encode_bad (V : Int) (h : Lib.validRune V = false) (w : World) : Calls Tryd.prog 40 #[.int .i32 V] w fun e w' => e = .returned (.tuple #[.string (strB []), .int .i64 5]) ∧ w = w' := encode_no V h w

theorem strCells_strB (l : List UInt8) : Lib.strCells (strB l) = Lib.byteCells l := by
  simp [Lib.strCells, Lib.byteCells, strB]

set_option maxRecDepth 100000 in
set_option maxHeartbeats 1000000 in
theorem text_any (a : Option Addr) (n c : Nat) (L : List Int) (w : World) (h : Runs w a n c L) (hn : n ≤ 10000000000) :
    Calls Tryd.prog 28 #[.slice a n c] w (TxtIs (txtE L) w) := by
  have hnI : (n : Int) ≤ 10000000000 := by omega
  have HL := Lib.hid h.1
  have HR := Lib.hid h
  have HN := Lib.hid hn
  have HO := Lib.hid (OkTo.zero L)
  clear h hn
  have hB0 : Bld w.heap.size [] (w.alloc (.cells #[.pointer none, .slice none 0 0] 61)) := Lib.fresh_isBuilder _ _ w
  go_enter Tryd.func28, Tryd.ntmps28
  go_wp2
  go_loopg [11] n (fun g v11 W => ∃ j : Nat, Below w.heap.size w W ∧ v11 = .int .i64 j ∧ g + j = n ∧ Hid (OkTo L j) ∧ Bld w.heap.size (txt (L.take j)) W ∧ w.heap.size < W.heap.size)
  case atStart => exact ⟨0, (Below.refl _ _).alloc (Nat.le_refl _) _, rfl, rfl, HO, hB0, by simp⟩
  case round =>
    obtain ⟨j, hbw, rfl, hg, hok, hbld, hlt⟩ := hrel
    have HG := Lib.hid hg
    have hj0 : (0 : Int) ≤ (j : Int) := by omega
    have hjI : (j : Int) ≤ (n : Int) := by omega
    by_cases hj : (j : Int) < (n : Int)
    · obtain ⟨ba, oa, rfl⟩ := HR.out.some_ (by omega)
      have ca := (HR.out.below hbw).cell j (by omega)
      obtain ⟨V, hV⟩ : ∃ V, V = L.getD j 0 := ⟨_, rfl⟩
      rw [← hV] at ca
      by_cases hv : Lib.validRune V = true
      · obtain ⟨m, hm, hmay⟩ := valid_of _ hv
        have HT := Lib.hid (txt_next (L := L) (j := j) (by rw [HL.out]; omega) (hV.symm.trans hm))
        have HK := Lib.hid (hok.out.next (by rw [← hV]; exact hv))
        have HC := fun W => Lib.hid (encode_yes V m hm hmay W)
        have hlen : (Lib.byteCells (txt (L.take j))).length + (strB (encF m)).size ≤ 140737488355328 := by
          rw [Lib.byteCells_length, strB_size]
          have := txt_le (L.take j)
          rw [List.length_take] at this
          have := encF_pos m
          have := HN.out
          omega
        have HX := Lib.hid hlen
        clear hV hv hm hmay hlen hg
        go_wp2_with (first
          | (go_at_call 40; go_must (refine (HC _).out.mono ?_); rintro e w1 ⟨rfl, rfl⟩)
          | (go_at_call 29; go_must (refine (writeString_any w.heap.size w.heap.size _ _ _ hbld HX.out (by omega)).mono ?_); rintro e w2 ⟨rfl, hb2, hbel2⟩))
        have hbld2 : Bld w.heap.size (txt (L.take (j + 1))) w2 := by
          rw [HT.out]
          unfold Bld
          rw [Lib.byteCells_append, ← strCells_strB (encF m)]
          exact .inr hb2
        go_roundg (gk - 1)
        case measure => have := HG.out; omega
        case rel => exact ⟨j + 1, hbw.trans hbel2, by go_num, by have := HG.out; omega, HK, hbld2, by have := hbel2.size; omega⟩
      · have hvf : Lib.validRune V = false := by simpa using hv
        have HE := Lib.hid (txtE_no (L := L) (j := j) (by rw [HL.out]; omega) (by rw [← hV]; exact hvf))
        have HC := fun W => Lib.hid (encode_bad V hvf W)
        clear hV hv hvf hg hbld
        go_wp2_with (go_at_call 40; go_must (refine (HC _).out.mono ?_); rintro e w1 ⟨rfl, rfl⟩)
        go_ret2
        rw [HE.out]
        exact ⟨rfl, hbw⟩
    · have hjn : j = n := by omega
      have HE := Lib.hid (txtE_yes (L := L) (by rw [HL.out, ← hjn]; exact hok.out))
      have HT := Lib.hid (show txt (L.take j) = txt L by rw [List.take_of_length_le (by rw [HL.out]; omega)])
      have HC := Lib.hid (Tryd.Builder_String_any w.heap.size w.heap.size (txt (L.take j)) wr hbld (by omega))
      clear hg hbld hjn
      go_wp2_with (go_at_call 30; go_must (refine HC.out.mono ?_); rintro e w1 ⟨rfl, hb⟩)
      go_ret2
      rw [HE.out, ← HT.out]
      exact ⟨rfl, hbw.trans hb⟩
#print axioms text_any

set_option maxRecDepth 100000 in
set_option maxHeartbeats 1000000 in
theorem refText_any (a : Option Addr) (n c : Nat) (L : List Int) (w : World) (h : Runs w a n c L) (hn : n ≤ 10000000000) :
    Calls Tryd.prog 32 #[.slice a n c] w (TxtIs (txtE L) w) := by
  have hnI : (n : Int) ≤ 10000000000 := by omega
  have HL := Lib.hid h.1
  have HR := Lib.hid h
  have HN := Lib.hid hn
  have HO := Lib.hid (OkTo.zero L)
  clear h hn
  go_enter Tryd.func32, Tryd.ntmps32
  go_wp2
  go_loopg [4, 5] n (fun g v4 v5 W => ∃ j : Nat, Below w.heap.size w W ∧ v5 = .int .i64 j ∧ g + j = n ∧ Hid (OkTo L j) ∧ Own W w.heap.size v4 (txt (L.take j)))
  case atStart => exact ⟨0, Below.refl _ _, rfl, rfl, HO, Own.nil _ _⟩
  case round =>
    obtain ⟨j, hbw, rfl, hg, hok, hown⟩ := hrel
    have HG := Lib.hid hg
    have hj0 : (0 : Int) ≤ (j : Int) := by omega
    have hjI : (j : Int) ≤ (n : Int) := by omega
    by_cases hj : (j : Int) < (n : Int)
    · obtain ⟨ba, oa, rfl⟩ := HR.out.some_ (by omega)
      have ca := (HR.out.below hbw).cell j (by omega)
      obtain ⟨V, hV⟩ : ∃ V, V = L.getD j 0 := ⟨_, rfl⟩
      rw [← hV] at ca
      by_cases hv : Lib.validRune V = true
      · obtain ⟨m, hm, hmay⟩ := valid_of _ hv
        have HT := Lib.hid (txt_next (L := L) (j := j) (by rw [HL.out]; omega) (hV.symm.trans hm))
        have HK := Lib.hid (hok.out.next (by rw [← hV]; exact hv))
        have HC := fun W => Lib.hid (refMay_is V true hv W)
        have HB := fun W => Lib.hid (refBytes_z V m hm hmay W)
        have HX := Lib.hid (show (txt (L.take j)).length + (encF m).length ≤ 140737488355328 by
          have := txt_le (L.take j)
          rw [List.length_take] at this
          have := encF_pos m
          have := HN.out
          omega)
        clear hV hv hm hmay hg
        go_wp2_with (first
          | (go_at_call 42; go_must (refine (HC _).out.mono ?_); rintro e w1 ⟨rfl, rfl⟩)
          | (go_at_call 26; go_must (refine (HB _).out.mono ?_); rintro e w2 ⟨a2, n2, c2, rfl, ho2, hb2⟩; have hown2 := hown.below hb2; have hbw2 := hbw.trans (hb2.mono hbw.size); have HN2 := Lib.hid ho2.len; have HB2 := Lib.hid ho2.isBytes; clear ho2)
          | ((with_reducible show wpList _ _ _ (⟨some 24, _, _, _, _, _⟩ :: _) _ _); go_must (refine app_bytes rfl (.tmp 18) (.tmp 23) rfl w.heap.size _ _ rfl hown2 _ _ _ _ rfl HB2.out (by have h1 := HX.out; have h2 := HN2.out; omega) hbw2.size ?_); intro v3 w3 hown3 hgr3; have hb3 := hbw2.grown hgr3 hbw2.size (fun q hq => (World.ownsRow.lt hown2 q hq).1); clear hgr3 hown2))
        go_roundg (gk - 1)
        case measure => have := HG.out; omega
        case rel => exact ⟨j + 1, hb3, by go_num, by have := HG.out; omega, HK, by rw [HT.out]; exact hown3⟩
      · have hvf : Lib.validRune V = false := by simpa using hv
        have HE := Lib.hid (txtE_no (L := L) (j := j) (by rw [HL.out]; omega) (by rw [← hV]; exact hvf))
        have HC := fun W => Lib.hid (refMay_is V false hvf W)
        clear hV hv hvf hg hown
        go_wp2_with (go_at_call 42; go_must (refine (HC _).out.mono ?_); rintro e w1 ⟨rfl, rfl⟩)
        go_ret2
        rw [HE.out]
        exact ⟨rfl, hbw⟩
    · have hjn : j = n := by omega
      have HE := Lib.hid (txtE_yes (L := L) (by rw [HL.out, ← hjn]; exact hok.out))
      have HT := Lib.hid (show txt (L.take j) = txt L by rw [List.take_of_length_le (by rw [HL.out]; omega)])
      obtain ⟨av, nv, cv, rfl, hbv⟩ := hown.bytes
      have hs2 := run_str hbv
      clear hg hown hjn hbv
      go_wp2
      go_ret2
      rw [HE.out, ← HT.out]
      exact ⟨rfl, hbw⟩
#print axioms refText_any
end Go.Proofs.YtbfaaphijgmabaaDoor
