/-
  Merged: UtfOne, UtfGet0, UtfGet, UtfEnc, UtfBuild, UtfText.
-/
import Derived.Test.YtmenhbdapikpeaaUtfOneMath
import Derived.Deep.QuietTactic
import Derived.BigQuiet
import Derived.WalkSmall
import Derived.Deep.LoopGhost
import Derived.Deep.RegionHeld
import Derived.Deep.Cut
import Derived.IntWalk
import Derived.Test.YtmenhbdapikpeaaUtfShelf
import Derived.Test.YtmenhbdapikpeaaUtfEnc0
import Derived.Test.YtmenhbdapikpeaaBytes
import Derived.Lib.Builder
import Derived.Lib.AppendStr
import Derived.Test.YtmenhbdapikpeaaUtfSame
namespace Go.Proofs.Ytmenhbdapikpeaa
open Go.RowKit (wrap64)
open Go.RowKit

/-- What One answers. -/
def OneIs (l : List UInt8) (w : World) (e : Ending) (w' : World) : Prop := e = .returned (.tuple #[.int .i32 (oneF l).1, .int .i64 (oneF l).2]) ∧ Below w.heap.size w w'

theorem nb_at (s : ByteArray) (p i : Nat) (h : p + i < s.size) : ((s[p + i]'h).toNat : Int) = nb (s.data.toList.drop p) i := by
  unfold nb
  rw [← get!_drop]
  show _ = ((s.data[p + i]!).toNat : Int)
  rw [getElem!_pos s.data (p + i) h]
  rfl

theorem w64 (z : Int) (h0 : -1000000000000 ≤ z) (h1 : z ≤ 1000000000000) : wrap64 z = z := by unfold wrap64; omega

theorem refMay_is (r : Int) (b : Bool) (h : Lib.validRune r = b) (w : World) : Calls Try.prog 21 #[.int .i32 r] w fun e w' => e = .returned (.bool b) ∧ w = w' := by
  subst h; exact refMay_any r w

theorem wrap_i32 (V : Int) (h0 : 0 ≤ V) (h1 : V ≤ 1114111) : IntKind.i32.wrap V = V := by
  unfold IntKind.wrap
  simp [IntKind.bits, IntKind.signed]
  omega

theorem oneF_found {l : List UInt8} {j m : Nat} (hm : mayF m = true) (hj : j ≤ l.length) (h : l.take j = encF m) : oneF l = (m, j) := by unfold oneF; rw [dec_found hm hj h]
theorem oneF_some {l : List UInt8} {p : Nat × Nat} (h : decF l = some p) : oneF l = p := by unfold oneF; rw [h]
theorem oneF_none {l : List UInt8} (h : decF l = none) : oneF l = (0, 0) := by unfold oneF; rw [h]

theorem str_ne {x y : ByteArray} (h : x ≠ y) : (x.toList == y.toList) = false := by
  rw [beq_eq_false_iff_ne]
  intro e
  rw [Lib.toList_data, Lib.toList_data] at e
  exact h (ByteArray.ext (Array.toList_inj.1 e))

theorem refBytes_z (V : Int) (m : Nat) (h : V = (m : Int)) (hm : mayF m = true) (w : World) : Calls Try.prog 29 #[.int .i32 V] w (Made w (encF m)) := by
  subst h; exact refBytes_any m (mayF_lt hm) w

end Go.Proofs.Ytmenhbdapikpeaa

namespace Go.Proofs.Ytmenhbdapikpeaa
open Go.RowKit

/-- What Decode answers. -/
def decE (l : List UInt8) (at_ : Int) : Nat × Int × Nat :=
  if at_ < 0 ∨ (l.length : Int) ≤ at_ then (0, 0, 1) else match decF (l.drop at_.toNat) with | some (n, k) => (n, at_ + (k : Int), 0) | none => (0, 0, 5)

def DecIs (r : Nat × Int × Nat) (w : World) (e : Ending) (w' : World) : Prop := e = .returned (.tuple #[.int .i32 r.1, .int .i64 r.2.1, .int .i64 r.2.2]) ∧ Below w.heap.size w w'

theorem DecIs.mk {n : Nat} {Y V Z : Int} {w w' : World} (hV : V = (n : Int)) (hZ : Z = Y) (hb : Below w.heap.size w w') : DecIs (n, Y, 0) w (.returned (.tuple #[.int .i32 V, .int .i64 Z, .int .i64 0])) w' := by
  subst hV hZ; exact ⟨rfl, hb⟩

theorem decE_out {l : List UInt8} {at_ : Int} (h : at_ < 0 ∨ (l.length : Int) ≤ at_) : decE l at_ = (0, 0, 1) := by unfold decE; rw [if_pos h]
theorem decE_some {l : List UInt8} {p n k : Nat} (hp : p < l.length) (h : decF (l.drop p) = some (n, k)) : decE l (p : Int) = (n, (p : Int) + (k : Int), 0) := by
  unfold decE; rw [if_neg (by omega), Int.toNat_natCast, h]
theorem decE_none {l : List UInt8} {p : Nat} (hp : p < l.length) (h : decF (l.drop p) = none) : decE l (p : Int) = (0, 0, 5) := by
  unfold decE; rw [if_neg (by omega), Int.toNat_natCast, h]

theorem str_len (s : ByteArray) : s.data.toList.length = s.size := by simp

theorem dec_bounds {l : List UInt8} {n k : Nat} (h : decF l = some (n, k)) : n ≤ 1114111 ∧ 1 ≤ k ∧ k ≤ 4 ∧ k ≤ l.length := by
  obtain ⟨hm, hk, hl, _⟩ := decF_some h
  have := encF_pos n
  exact ⟨mayF_lt hm, by omega, by omega, hl⟩

end Go.Proofs.Ytmenhbdapikpeaa

namespace Go.Proofs.Ytmenhbdapikpeaa
open Go.RowKit

end Go.Proofs.Ytmenhbdapikpeaa

namespace Go.Proofs.Ytmenhbdapikpeaa
open Go.RowKit

theorem valid_any (r : Int) (b : Bool) (h : Lib.validRune r = b) (w : World) : Calls Try.prog 35 #[.int .i32 r] w fun e w' => e = .returned (.bool b) ∧ w = w' :=
  (Try.utf8_ValidRune r w).mono fun _ _ ⟨h1, h2⟩ => ⟨h1.trans (retB h), h2.symm⟩

/-- A text and an error's number. -/
def StrE (l : List UInt8) (c : Nat) (w : World) (e : Ending) (w' : World) : Prop := e = .returned (.tuple #[.string (strB l), .int .i64 c]) ∧ w = w'

set_option maxRecDepth 100000 in
set_option maxHeartbeats 400000 in
theorem encode_ok (n : Nat) (h : mayF n = true) (w : World) : Calls Try.prog 23 #[.int .i32 (n : Int)] w (StrE (encF n) 0 w) := by
  have hv := valid_nat n
  rw [h] at hv
  have HE := Lib.hid (encode_eq n h)
  have hc := Lib.hid (valid_any (n : Int) true hv w)
  clear hv h
  go_enter Try.func23, Try.ntmps23
  go_wp2_with (go_at_call 35; go_must (refine hc.out.mono ?_); rintro e w1 ⟨rfl, rfl⟩)
  rw [HE.out]
  go_ret2
  exact ⟨rfl, rfl⟩

set_option maxRecDepth 100000 in
set_option maxHeartbeats 400000 in
theorem encode_no (r : Int) (h : Lib.validRune r = false) (w : World) : Calls Try.prog 23 #[.int .i32 r] w (StrE [] 5 w) := by
  have hc := Lib.hid (valid_any r false h w)
  clear h
  go_enter Try.func23, Try.ntmps23
  go_wp2_with (go_at_call 35; go_must (refine hc.out.mono ?_); rintro e w1 ⟨rfl, rfl⟩)
  go_ret2
  exact ⟨rfl, rfl⟩

end Go.Proofs.Ytmenhbdapikpeaa

namespace Go.Proofs.Ytmenhbdapikpeaa
open Go.RowKit

/-- A Builder of the call's own. -/
abbrev Bld (b : Nat) (l : List UInt8) (w : World) : Prop := Lib.IsBuilder 78 5 b b (Lib.byteCells l) w

theorem info_bld : (Try.prog.info? 78).map (·.size) = some 2 := by kernel_rfl
theorem lies_bld : liesAt Try.prog Try.prog.depth 78 (2 / Try.prog.cellsOf 78) 0 78 1 = true := by kernel_rfl

set_option maxHeartbeats 1000000 in
set_option maxRecDepth 100000 in
theorem check_used (b : Nat) (w : World) (h0 : w.cell? ⟨b, 0, none⟩ = some (.pointer (some ⟨b, 0, none⟩))) :
    Calls Try.prog 44 #[.pointer (some ⟨b, 0, none⟩)] w fun e w' => e = .returned (.tuple #[]) ∧ w = w' := by
  obtain ⟨j, hj, _⟩ := Option.map_eq_some_iff.1 info_bld
  go_enter Try.func44, Try.ntmps44
  go_wp2
  rw [Lib.run_neq_ptr_same w _ Try.underlying76 hj]
  go_wp2
  go_end0
  exact ⟨rfl, rfl⟩

set_option maxHeartbeats 1000000 in
set_option maxRecDepth 100000 in
theorem check_fresh (b : Nat) (w : World) (h0 : w.cell? ⟨b, 0, none⟩ = some (.pointer none)) (hsh : w.shape? b = some (78, 2)) (hfz : w.frozen? ⟨b, 0, none⟩ = false) :
    Calls Try.prog 44 #[.pointer (some ⟨b, 0, none⟩)] w fun e w' => e = .returned (.tuple #[]) ∧ w' = w.setCell ⟨b, 0, none⟩ (.pointer (some ⟨b, 0, none⟩)) := by
  obtain ⟨j, hj, hjs⟩ := Option.map_eq_some_iff.1 info_bld
  go_enter Try.func44, Try.ntmps44
  go_wp2
  rw [Lib.run_to_unsafe w ⟨b, 0, none⟩ Try.underlying76 Try.underlying91 hj (by rw [hjs]; decide) hsh (Nat.zero_lt_succ 1)]
  simp only [Result.andThen]
  rw [Oper.upon_value]
  go_wp2
  rw [run_callFunc_extern Try.func48 (by kernel_rfl) (by kernel_rfl) (by kernel_rfl) (e := Extern.AbiNoEscape.same) (by kernel_rfl)]
  rw [Lib.run_noEscape]
  simp only [Result.andThen]
  rw [Oper.upon_value]
  go_wp2
  rw [Lib.run_from_unsafe w ⟨b, 0, none⟩ Try.underlying91 Try.underlying76 hj hsh lies_bld]
  simp only [Result.andThen]
  rw [Oper.upon_value]
  go_wp2
  go_end0
  exact ⟨rfl, rfl⟩

theorem copyCheck_any (B b : Nat) (bs : List Value) (w : World) (h : Lib.IsBuilder 78 5 B b bs w) :
    Calls Try.prog 44 #[.pointer (some ⟨b, 0, none⟩)] w fun e w' => e = .returned (.tuple #[]) ∧ (Lib.BuilderAt 78 5 B b (.pointer (some ⟨b, 0, none⟩)) bs w' ∧ Below B w w') := by
  rcases h with h | h
  · refine (check_fresh b w h.cell0 h.shape h.frozen0).mono ?_
    rintro e w' ⟨rfl, rfl⟩
    exact ⟨rfl, h.used _, (Below.refl B w).setCell (p := ⟨b, 0, none⟩) h.1 _⟩
  · refine (check_used b w h.cell0).mono ?_
    rintro e w' ⟨rfl, rfl⟩
    exact ⟨rfl, h, Below.refl B _⟩

set_option maxHeartbeats 2000000 in
set_option maxRecDepth 100000 in
theorem writeString_any (B b : Nat) (bs : List Value) (s : ByteArray) (w : World) (h : Lib.IsBuilder 78 5 B b bs w) (hlen : bs.length + s.size ≤ 140737488355328) (hBw : B ≤ w.heap.size) :
    Calls Try.prog 37 #[.pointer (some ⟨b, 0, none⟩), .string s] w fun e w' => e = .returned (.tuple #[.int .i64 s.size, .nilIface]) ∧ (Lib.BuilderAt 78 5 B b (.pointer (some ⟨b, 0, none⟩)) (bs ++ Lib.strCells s) w' ∧ Below B w w') := by
  obtain ⟨i0, hi, hz0, hz1, hz2⟩ := info_parts Try.info5
  go_enter Try.func37, Try.ntmps37
  go_wp2_with (go_at_call 44; refine (copyCheck_any B b bs _ h).mono ?_)
  rintro e w1 ⟨rfl, h1, hb1⟩
  obtain ⟨hB, v, hbk, hown, hne⟩ := h1
  have c0 : w1.cell? ⟨b, 0, none⟩ = some (.pointer (some ⟨b, 0, none⟩)) := by rw [Lib.cell_of_heap hbk]; rfl
  have c1 : w1.cell? ⟨b, 1, none⟩ = some v := by rw [Lib.cell_of_heap hbk]; rfl
  go_wp2_with (at_builtin; refine Lib.wpList_append_own_string _ rfl _ _ 67 9 rfl B 5 i0 Try.underlying67 Try.underlying9 hi hz0 hz1 hz2 _ _ _ rfl hown s rfl ?c3 ?c4 ?c5 ?_)
  case c3 => unfold maxLen; omega
  case c4 => omega
  case c5 => have := hb1.size; omega
  intro v' w2 hown' hgrow _
  have hlt : b < w1.heap.size := by
    rcases Nat.lt_or_ge b w1.heap.size with h' | h'
    · exact h'
    · simp [Array.getElem?_eq_none h'] at hbk
  have hb2 : w2.heap[b]? = some (.cells #[.pointer (some ⟨b, 0, none⟩), v] 78 (0, 0)) := by
    rw [hgrow.block b hlt (fun e => hne e.symm)]
    exact hbk
  have d0 : w2.cell? ⟨b, 0, none⟩ = some (.pointer (some ⟨b, 0, none⟩)) := by rw [Lib.cell_of_heap hb2]; rfl
  have d1 : w2.cell? ⟨b, 1, none⟩ = some v := by rw [Lib.cell_of_heap hb2]; rfl
  have f1 : w2.frozen? ⟨b, 1, none⟩ = false := Lib.frozen_of_heap hb2 1
  obtain ⟨ao, n', cap, rfl⟩ : ∃ ao n' cap, v' = .slice ao n' cap := by
    rcases hown'.2 with ⟨hv, _⟩ | ⟨g, cap, cur, hv, _⟩
    · exact ⟨_, _, _, hv⟩
    · exact ⟨_, _, _, hv⟩
  go_wp2
  go_ret2
  refine ⟨rfl, ?_, ?_⟩
  · exact Lib.BuilderAt.put (T := 78) (e := 5) hB hb2 (bs' := bs ++ Lib.strCells s) (by simpa [Lib.strCells_length] using hown') (by decide)
  · exact (hb1.grown hgrow (by have := hb1.size; omega) (fun k hk => (hown.lt k hk).1)).setCell (p := ⟨b, 1, none⟩) hB _
#print axioms writeString_any
end Go.Proofs.Ytmenhbdapikpeaa

namespace Go.Proofs.Ytmenhbdapikpeaa
open Go.RowKit

/-- The first so many runes are runes. -/
def OkTo (L : List Int) (j : Nat) : Prop := ∀ i, i < j → Lib.validRune (L.getD i 0) = true
/-- The text of the first so many. -/
def txt (L : List Int) : List UInt8 := textF (L.map Int.toNat)
/-- What Text answers. -/
def txtE (L : List Int) : List UInt8 × Nat := if L.all Lib.validRune = true then (txt L, 0) else ([], 5)

theorem OkTo.zero (L : List Int) : OkTo L 0 := fun i hi => by omega
theorem OkTo.next {L : List Int} {j : Nat} (h : OkTo L j) (hv : Lib.validRune (L.getD j 0) = true) : OkTo L (j + 1) := fun i hi => by
  rcases Nat.lt_or_ge i j with h1 | h1
  · exact h i h1
  · obtain rfl : i = j := by omega
    exact hv
theorem txtE_no {L : List Int} {j : Nat} (hj : j < L.length) (hv : Lib.validRune (L.getD j 0) = false) : txtE L = ([], 5) := by
  unfold txtE
  rw [if_neg]
  intro h
  have := List.all_eq_true.1 h (L.getD j 0) (by simp [hj])
  rw [hv] at this
  cases this
theorem txtE_yes {L : List Int} (h : OkTo L L.length) : txtE L = (txt L, 0) := by
  unfold txtE
  rw [if_pos]
  rw [List.all_eq_true]
  intro z hz
  obtain ⟨i, hi, rfl⟩ := List.getElem_of_mem hz
  have := h i hi
  simpa [hi] using this
theorem txt_next {L : List Int} {j n : Nat} (hj : j < L.length) (hv : L.getD j 0 = (n : Int)) : txt (L.take (j + 1)) = txt (L.take j) ++ encF n := by
  unfold txt
  rw [List.take_succ_eq_append_getElem hj, List.map_append, textF_append]
  have e : L[j] = (n : Int) := by simpa [hj] using hv
  rw [e]
  simp [textF]
theorem txt_le (L : List Int) : (txt L).length ≤ 4 * L.length := by
  unfold txt
  induction L with
  | nil => simp [textF]
  | cons z L ih =>
    have e : textF ((z :: L).map Int.toNat) = encF z.toNat ++ textF (L.map Int.toNat) := rfl
    rw [e, List.length_append, List.length_cons]
    have := encF_pos z.toNat
    omega

theorem StrE.mk {l : List UInt8} {c : Nat} {w w' : World} (h : w = w') : StrE l c w (.returned (.tuple #[.string (strB l), .int .i64 c])) w' := ⟨rfl, h⟩

/-- A text and an error's number; what was there stands. -/
def TxtIs (r : List UInt8 × Nat) (w : World) (e : Ending) (w' : World) : Prop := e = .returned (.tuple #[.string (strB r.1), .int .i64 r.2]) ∧ Below w.heap.size w w'

theorem encode_yes (V : Int) (n : Nat) (h : V = (n : Int)) (hm : mayF n = true) (w : World) : Calls Try.prog 23 #[.int .i32 V] w fun e w' => e = .returned (.tuple #[.string (strB (encF n)), .int .i64 0]) ∧ w = w' := by
  subst h; exact encode_ok n hm w
theorem encode_bad (V : Int) (h : Lib.validRune V = false) (w : World) : Calls Try.prog 23 #[.int .i32 V] w fun e w' => e = .returned (.tuple #[.string (strB []), .int .i64 5]) ∧ w = w' := encode_no V h w

theorem strCells_strB (l : List UInt8) : Lib.strCells (strB l) = Lib.byteCells l := by
  simp [Lib.strCells, Lib.byteCells, strB]

set_option maxRecDepth 100000 in
set_option maxHeartbeats 1000000 in
theorem text_any (a : Option Addr) (n c : Nat) (L : List Int) (w : World) (h : Runs w a n c L) (hn : n ≤ 10000000000) :
    Calls Try.prog 27 #[.slice a n c] w (TxtIs (txtE L) w) := by
  have hnI : (n : Int) ≤ 10000000000 := by omega
  have HL := Lib.hid h.1
  have HR := Lib.hid h
  have HN := Lib.hid hn
  have HO := Lib.hid (OkTo.zero L)
  clear h hn
  have hB0 : Bld w.heap.size [] (w.alloc (.cells #[.pointer none, .slice none 0 0] 78)) := Lib.fresh_isBuilder _ _ w
  go_enter Try.func27, Try.ntmps27
  go_wp2
  go_loopg [11] n (fun g v11 W => ∃ j : Nat, Below w.heap.size w W ∧ v11 = .int .i64 j ∧ g + j = n ∧ Hid (OkTo L j) ∧ Bld w.heap.size (txt (L.take j)) W ∧ w.heap.size < W.heap.size)
  case atStart => exact ⟨0, (Below.refl _ _).alloc (Nat.le_refl _) _, rfl, rfl, HO, hB0, by simp⟩
  case round =>
    obtain ⟨j, hbw, rfl, hg, hok, hbld, hlt⟩ := hrel
    have HG := Lib.hid hg
    have hj0 : (0 : Int) ≤ (j : Int) := by omega
    have hjI : (j : Int) ≤ (n : Int) := by omega
    by_cases hj : (j : Int) < (n : Int)
    · obtain ⟨ba, oa, rfl⟩ := HR.out.some_ (by omega)
      have ca := (HR.out.below hbw).cell j (by omega)
      obtain ⟨V, hV⟩ : ∃ V, V = L.getD j 0 := ⟨_, rfl⟩
      rw [← hV] at ca
      by_cases hv : Lib.validRune V = true
      · obtain ⟨m, hm, hmay⟩ := valid_of _ hv
        have HT := Lib.hid (txt_next (L := L) (j := j) (by rw [HL.out]; omega) (hV.symm.trans hm))
        have HK := Lib.hid (hok.out.next (by rw [← hV]; exact hv))
        have HC := fun W => Lib.hid (encode_yes V m hm hmay W)
        have hlen : (Lib.byteCells (txt (L.take j))).length + (strB (encF m)).size ≤ 140737488355328 := by
          rw [Lib.byteCells_length, strB_size]
          have := txt_le (L.take j)
          rw [List.length_take] at this
          have := encF_pos m
          have := HN.out
          omega
        have HX := Lib.hid hlen
        clear hV hv hm hmay hlen hg
        go_wp2_with (first
          | (go_at_call 23; go_must (refine (HC _).out.mono ?_); rintro e w1 ⟨rfl, rfl⟩)
          | (go_at_call 37; go_must (refine (writeString_any w.heap.size w.heap.size _ _ _ hbld HX.out (by omega)).mono ?_); rintro e w2 ⟨rfl, hb2, hbel2⟩))
        have hbld2 : Bld w.heap.size (txt (L.take (j + 1))) w2 := by
          rw [HT.out]
          unfold Bld
          rw [Lib.byteCells_append, ← strCells_strB (encF m)]
          exact .inr hb2
        go_roundg (gk - 1)
        case measure => have := HG.out; omega
        case rel => exact ⟨j + 1, hbw.trans hbel2, by go_num, by have := HG.out; omega, HK, hbld2, by have := hbel2.size; omega⟩
      · have hvf : Lib.validRune V = false := by simpa using hv
        have HE := Lib.hid (txtE_no (L := L) (j := j) (by rw [HL.out]; omega) (by rw [← hV]; exact hvf))
        have HC := fun W => Lib.hid (encode_bad V hvf W)
        clear hV hv hvf hg hbld
        go_wp2_with (go_at_call 23; go_must (refine (HC _).out.mono ?_); rintro e w1 ⟨rfl, rfl⟩)
        go_ret2
        rw [HE.out]
        exact ⟨rfl, hbw⟩
    · have hjn : j = n := by omega
      have HE := Lib.hid (txtE_yes (L := L) (by rw [HL.out, ← hjn]; exact hok.out))
      have HT := Lib.hid (show txt (L.take j) = txt L by rw [List.take_of_length_le (by rw [HL.out]; omega)])
      have HC := Lib.hid (Try.Builder_String_any w.heap.size w.heap.size (txt (L.take j)) wr hbld (by omega))
      clear hg hbld hjn
      go_wp2_with (go_at_call 38; go_must (refine HC.out.mono ?_); rintro e w1 ⟨rfl, hb⟩)
      go_ret2
      rw [HE.out, ← HT.out]
      exact ⟨rfl, hbw.trans hb⟩
#print axioms text_any

end Go.Proofs.Ytmenhbdapikpeaa
