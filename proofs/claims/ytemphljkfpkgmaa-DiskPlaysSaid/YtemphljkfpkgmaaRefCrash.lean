/-
  The reference's Crash walked.
-/
import Derived.Test.YtemphljkfpkgmaaRefApp
import Derived.Test.YtemphljkfpkgmaaRefNil
import Derived.Test.YtemphljkfpkgmaaRefCrashMath
import Derived.Test.YtemphljkfpkgmaaRefFate
import Derived.Deep.MidRow
import Derived.Deep.CutRange
namespace Go.Proofs.Ytemphljkfpkgmaa
open Go.RowKit

/-- What is laid out so far: the new disk, a box of its own. -/
structure CM (w0 W : World) (V2 : RVal) (S2 : DS) (L : List Hold) : Prop where
  out : RBox W w0.heap.size V2 S2
  hold : Holds W (w0.heap.size + 1) L
  below : Below w0.heap.size w0 W
  bas : w0.heap.size + 1 ≤ W.heap.size
section
variable {w0 W W' : World} {V2 V3 : RVal} {S2 S3 : DS} {L : List Hold}
theorem CM.on (C : CM w0 W V2 S2 L) (hb : Below W.heap.size W W') : CM w0 W' V2 S2 L :=
  ⟨RBox.below C.out hb, C.hold.below hb, C.below.trans (hb.mono C.below.size), Nat.le_trans C.bas hb.size⟩
theorem CM.store (C : CM w0 W V2 S2 L) (j : Nat) (v : Value) (e : (refL V2 S2).set j v = refL V3 S3) : CM w0 (W.setCell ⟨w0.heap.size, j, none⟩ v) V3 S3 L := by
  refine ⟨?_, C.hold.setLow (Nat.lt_succ_self _) _ _, C.below.setCell (Nat.le_refl _) _, by have := C.bas; simp only [World.setCell] at *; simpa using this⟩
  have := RowAt.set C.out j v
  rw [e] at this
  exact this
theorem CM.add {h : Hold} (C : CM w0 W V2 S2 L) (hb : Below W.heap.size W W') (ho : h.At W' W.heap.size) : CM w0 W' V2 S2 (h :: L) :=
  ⟨RBox.below C.out hb, C.hold.add ho hb C.bas, C.below.trans (hb.mono C.below.size), Nat.le_trans C.bas hb.size⟩
theorem CM.put {h h' : Hold} (A : List Hold) (C : CM w0 W V2 S2 (A ++ h :: L)) (hg : W.grownBy W' h.v.ownBlock) (ho : h'.At W' (w0.heap.size + 1)) (ht : Told W h.v h'.v) : CM w0 W' V2 S2 (A ++ h' :: L) := by
  have hlt : ∀ k, h.v.ownBlock = some k → w0.heap.size + 1 ≤ k := fun k hk => (C.hold.lt (h := h) (by simp) k hk).1
  exact ⟨C.out.grown hg (fun e => by have := hlt _ e.symm; omega), C.hold.putAt A hg ho ht, C.below.grown hg C.below.size (fun k hk => by have := hlt k hk; omega), Nat.le_trans C.bas hg.size⟩
theorem CM.perm {L1 : List Hold} (C : CM w0 W V2 S2 L) (h : L.Perm L1) : CM w0 W V2 S2 L1 := ⟨C.out, C.hold.perm h, C.below, C.bas⟩
end
/-- The parts, by their values. -/
abbrev partsL (va vk vn vy vf : Value) (S : DS) (ns : List Nat) (R : List BRow) : List Hold :=
  hG actK 81 va S.acts :: hG entK 67 vk S.kept :: hG entK 67 vn S.now ::
    hG numK 3 vy ns :: hG rowK 35 vf R :: R.map hB
theorem CM.row {w0 W W' : World} {V2 : RVal} {S2 : DS} {x : BRow} {va vk vn vy vf v' : Value} {ns : List Nat} {R : List BRow} (C : CM w0 W V2 S2 (hB x :: partsL va vk vn vy vf S2 ns R)) (hg : W.grownBy W' vf.ownBlock) (ho : OwnG rowK 35 W' (w0.heap.size + 1) v' (R ++ [x])) (ht : Told W vf v') :
    CM w0 W' V2 S2 (partsL va vk vn vy v' S2 ns (R ++ [x])) := by
  have h1 : CM w0 W V2 S2 ([hB x, hG actK 81 va S2.acts, hG entK 67 vk S2.kept, hG entK 67 vn S2.now, hG numK 3 vy ns] ++ hG rowK 35 vf R :: R.map hB) := C
  have h2 := h1.put _ (h' := hG rowK 35 v' (R ++ [x])) hg ho.1 ht
  refine h2.perm ?_
  have h3 : (hB x :: ([hG actK 81 va S2.acts, hG entK 67 vk S2.kept, hG entK 67 vn S2.now, hG numK 3 vy ns, hG rowK 35 v' (R ++ [x])] ++ R.map hB)).Perm (([hG actK 81 va S2.acts, hG entK 67 vk S2.kept, hG entK 67 vn S2.now, hG numK 3 vy ns, hG rowK 35 v' (R ++ [x])] ++ R.map hB) ++ [hB x]) := List.perm_append_comm (l₁ := [hB x])
  refine h3.trans (List.Perm.of_eq ?_)
  simp
theorem CM.num {w0 W W' : World} {V2 : RVal} {S2 : DS} {va vk vn vy vf v' : Value} {ns ns' : List Nat} {R : List BRow} (C : CM w0 W V2 S2 (partsL va vk vn vy vf S2 ns R)) (hg : W.grownBy W' vy.ownBlock) (ho : OwnG numK 3 W' (w0.heap.size + 1) v' ns') (ht : Told W vy v') :
    CM w0 W' V2 S2 (partsL va vk vn v' vf S2 ns' R) := by
  have h1 : CM w0 W V2 S2 ([hG actK 81 va S2.acts, hG entK 67 vk S2.kept, hG entK 67 vn S2.now] ++ hG numK 3 vy ns :: (hG rowK 35 vf R :: R.map hB)) := C
  exact h1.put _ (h' := hG numK 3 v' ns') hg ho.1 ht
theorem CM.now {w0 W W' : World} {V2 : RVal} {S2 : DS} {va vk vn vy vf v' : Value} {l' : Dir} {ns : List Nat} {R : List BRow} (C : CM w0 W V2 S2 (partsL va vk vn vy vf S2 ns R)) (hg : W.grownBy W' vn.ownBlock) (ho : OwnG entK 67 W' (w0.heap.size + 1) v' l') (ht : Told W vn v') :
    CM w0 W' V2 S2 (partsL va vk v' vy vf { S2 with now := l' } ns R) := by
  have h1 : CM w0 W V2 S2 ([hG actK 81 va S2.acts, hG entK 67 vk S2.kept] ++ hG entK 67 vn S2.now :: (hG numK 3 vy ns :: hG rowK 35 vf R :: R.map hB)) := C
  exact h1.put _ (h' := hG entK 67 v' l') hg ho.1 ht
def byteK : Kind UInt8 := ⟨fun x => [B x], 1, fun _ => True, by decide, fun _ _ => rfl, fun x _ v hv => by
  simp only [List.mem_cons, List.not_mem_nil, or_false] at hv; subst hv; rfl⟩
theorem flat_byte (l : List UInt8) : flatG byteK l = l.map B := by
  induction l with
  | nil => rfl
  | cons x l ih => show B x :: flatG byteK l = _; rw [ih]; rfl
theorem own_of_byte {w : World} {base : Nat} {v : Value} {l : List UInt8} (h : OwnG byteK 5 w base v l) : Own w base v l := by
  have := h.1
  rw [flat_byte] at this
  exact this
theorem at_of_bytes {w : World} {a : Option Addr} {n c : Nat} {l : List UInt8} (h : Bytes w a n c l) : AtG byteK w a n c l := by
  obtain ⟨h1, h2, h3, h4⟩ := h
  refine ⟨h1, h2, h3, fun _ _ => trivial, ?_⟩
  rcases h4 with h4 | ⟨b, off, ha, hc⟩
  · exact .inl h4
  · refine .inr ⟨b, off, ha, fun j hj i v hv => ?_⟩
    have hi : i = 0 := by
      rcases Nat.eq_zero_or_pos i with h | h
      · exact h
      · rw [List.getElem?_eq_none (by show 1 ≤ i; omega)] at hv; cases hv
    subst hi
    have := hc j hj
    have e : byteK.cells (gd l j) = [B (gd l j)] := rfl
    rw [e] at hv
    simp only [List.getElem?_cons_zero, Option.some.injEq] at hv
    subst hv
    show w.cell? ⟨b, off + j * 1 + 0, none⟩ = _
    rw [Nat.mul_one, Nat.add_zero, this]
    rfl
theorem byteInfo : (Try.prog.info? 5).map (fun i => (i.zero, i.size, i.bytes)) = some (some (.int .u8 0), 1, 1) := by kernel_rfl
/-- So far. -/
def stS (S : DS) (fs : List Int) (i : Nat) : DS := ⟨S.quota, leftFiles S.files ((leftS S fs).take i) fs, leftNow ((leftS S fs).take i), [], [], S.refused, 0, false⟩
theorem cut_next {S : DS} {fs : List Int} {i m f y n0 kf cn : Nat} {nm : Nm} {xb : List UInt8} (hl : (leftS S fs).length = m) (hi : i < m) (he : gd (leftS S fs) i = (nm, f)) (hx : S.files.getD f ([], 0) = (xb, y)) (hn : xb.length = n0) (hk : fateF fs (i + 1) (n0 - y + 1) = kf) (hc : y + kf = cn) :
    (stS S fs i).now ++ [(nm, i)] = (stS S fs (i + 1)).now ∧ (stS S fs i).files.map (·.2) ++ [cn] = (stS S fs (i + 1)).files.map (·.2) ∧ (stS S fs i).files.map (·.1) ++ [xb.take cn] = (stS S fs (i + 1)).files.map (·.1) := by
  have h1 : i < (leftS S fs).length := by omega
  have e1 : leftNow ((leftS S fs).take (i + 1)) = leftNow ((leftS S fs).take i) ++ [(nm, i)] := by rw [now_next h1, he]
  have e2 : leftFiles S.files ((leftS S fs).take (i + 1)) fs = leftFiles S.files ((leftS S fs).take i) fs ++ [(xb.take cn, cn)] := by
    rw [files_next h1, he]
    simp only [hx]
    unfold cutF cutN
    simp only [hn, hk, hc]
  unfold stS
  simp only
  rw [e1, e2]
  simp
theorem cm_next {w0 W : World} {V3 : RVal} {S : DS} {fs : List Int} {i : Nat} {X : Dir} {va vk vn vy vf : Value} {ns : List Nat} {R : List BRow} (C : CM w0 W V3 { stS S fs i with now := X } (partsL va vk vn vy vf { stS S fs i with now := X } ns R)) (hX : X = (stS S fs (i + 1)).now) (hn : ns = (stS S fs (i + 1)).files.map (·.2)) :
    CM w0 W V3 (stS S fs (i + 1)) (partsL va vk vn vy vf (stS S fs (i + 1)) ((stS S fs (i + 1)).files.map (·.2)) R) := by
  subst hX hn
  exact ⟨C.out, C.hold, C.below, C.bas⟩
theorem parts_nil (W : World) (base : Nat) (q : Int) (k r : Nat) : Holds W base (partsH ⟨true, q, none, 0, 0, none, 0, 0, none, 0, 0, none, 0, 0, none, 0, 0⟩ ⟨k, [], [], [], [], r, 0, false⟩ []) := by
  refine ⟨fun h hm => ?_, .cons (fun x hx k hk => by cases hk) (.cons (fun x hx k hk => by cases hk) (.cons (fun x hx k hk => by cases hk) (.cons (fun x hx k hk => by cases hk) (.cons (fun x hx k hk => by cases hk) .nil))))⟩
  simp only [partsH, List.map_nil, List.mem_cons, List.not_mem_nil, or_false] at hm
  rcases hm with rfl | rfl | rfl | rfl | rfl
  · exact (OwnG.nil (K := actK)).1
  · exact (OwnG.nil (K := entK)).1
  · exact (OwnG.nil (K := entK)).1
  · exact (OwnG.nil (K := numK)).1
  · exact (OwnG.nil (K := rowK)).1
theorem wp_appG_told {α : Type} [Inhabited α] (K : Kind α) {T E : TypeId} {z : Value} {by_ : Nat} (hU : Try.prog.underlying T = some (.slice E)) (hI : (Try.prog.info? E).map (fun i => (i.zero, i.size, i.bytes)) = some (some z, K.k, by_)) (hz : z.cells.size = K.k)
    {w : World} {o : Oper} {a : Act} {K' : Act → World → Prop} {Q : Exit → Act → World → Prop} (s x : Operand)
    (ho : o.op = .call { callee := .builtin .append, args := #[s, x], argTypes := #[T, T] })
    (base : Nat) (v : Value) (l : List α) (hs : a.eval s = v) (hown : OwnG K E w base v l)
    (sa : Option Addr) (m c : Nat) (src : List α) (hx : a.eval x = .slice sa m c) (hsrc : AtG K w sa m c src)
    (h48 : (l.length + m) * (by_ + 1) ≤ 140737488355328) (hbase : base ≤ w.heap.size) (r : Nat) (hr : r = l.length + m)
    (h : ∀ a' c' w', OwnG K E w' base (.slice a' r c') (l ++ src) → w.grownBy w' v.ownBlock → Told w v (.slice a' r c') → K' (a.put o.dst (.slice a' r c')) w') : o.wp Try.prog a w K' Q := by
  obtain ⟨a', c', w', hrun, h1, h2, h3⟩ := run_appG_told K o.type hU hI hz w base v l hown sa m c src hsrc h48 hbase r hr
  exact Lib.wp_append_run _ s x _ _ ho _ _ hs hx _ _ hrun (h a' c' w' h1 h2 h3)
def RCrashEnd (w : World) (V : RVal) (S : DS) (fs : List Int) (e : Ending) (w' : World) : Prop := ∃ V', e = .returned (.agg (refC V' (crashS S fs))) ∧ V'.made = true ∧ V'.q = V.q ∧ RefFar w w' V' (crashS S fs) ∧ Below w.heap.size w w'
set_option maxRecDepth 100000 in
set_option maxHeartbeats 4000000 in
theorem refCrash_any (V : RVal) (S : DS) (a : Option Addr) (n c : Nat) (fs : List Int) (w : World) (h : RefIn w V S) (hA : At1 I w a n c fs) (hz : ∀ z ∈ fs, -9223372036854775808 ≤ z ∧ z ≤ 9223372036854775807) (hm : V.made = true) (hok : Inv S) (hfew : Few S 1000) :
    Calls Try.prog 27 #[.agg (refC V S), .slice a n c] w (RCrashEnd w V S fs) := by
  have HI := Lib.hid h
  have HIV := Lib.hid hok
  have HA := Lib.hid hA
  have HZ := Lib.hid hz
  have HNK := Lib.hid h.kept.1
  have HNA := Lib.hid h.acts.1
  have hnaI : (V.na : Int) ≤ 1000 := by have := h.acts.1; have := hfew.dirs; omega
  have hna0 : (0 : Int) ≤ (V.na : Int) := by omega
  have HD := Lib.hid hfew.dirs
  have HFW := Lib.hid hfew
  have H48 := Lib.hid (show (([] : Dir).length + V.nk) * (24 + 1) ≤ 140737488355328 by have := h.kept.1; have := hfew.dirs; simp; omega)
  have PF := Lib.hid (fun W (hb : Below w.heap.size w W) (i c0 : Nat) (hi : i ≤ 2000000000) (h0 : 0 < c0) (h1 : c0 ≤ 2000000000) => refFate_any a n c fs i c0 W (hA.below hb) hi h0 h1 hz)
  have PF0 := Lib.hid (fun W (hb : Below w.heap.size w W) => show Calls Try.prog 49 #[.slice a n c, .int .i64 0, .int .i64 ((V.na : Int) + 1)] W (fun e w' => e = .returned (.int .i64 (fateF fs 0 (V.na + 1) : Nat)) ∧ W = w') from PF.out W hb 0 (V.na + 1) (by omega) (by omega) (by omega))
  obtain ⟨k1, hk1⟩ : ∃ k1, fateF fs 0 (V.na + 1) = k1 := ⟨_, rfl⟩
  rw [hk1] at PF0
  have hk1n : k1 ≤ V.na := by have := fate_le fs 0 (V.na + 1) (by omega); omega
  have hk1I : (k1 : Int) ≤ (V.na : Int) := by omega
  have HK1 := Lib.hid hk1
  have HK1N := Lib.hid hk1n
  clear h hA hz hok hfew hk1 hk1n
  go_enter Try.func27, Try.ntmps27
  go_wp2_with (first
    | (refine box_row rfl 31 (.tmp 0) (refL V S) rfl rfl ?_; intro w1 hr1 hb1 hs1; have HB1 := Lib.hid hb1; have HR1 := Lib.hid hr1; have HS1 := Lib.hid hs1; clear hb1 hr1 hs1)
    | (refine alloc_row rfl 31 zeroD rfl zero_disk ?_; intro w2 hr2 hb2 hs2; have HB2 := Lib.hid (HB1.out.trans (hb2.mono HB1.out.size)); have HR2 := Lib.hid (RBox.below HR1.out hb2); have HZ2 := Lib.hid hr2; have HNE := Lib.hid (show w1.heap.size ≠ w.heap.size by have := HS1.out; omega); have HW1 := Lib.hid HB1.out.size
       have k0 := (RBox.cells HR2.out).1
       rw [hm] at k0
       have k5 := (RBox.cells (RBox.below HR2.out ((Below.refl _ w2).alloc (Nat.le_refl _) (.cells #[] 67)))).2.2.2.2.2.1
       have HX2 := Lib.hid (HI.out.below (HB2.out.alloc HB2.out.size (.cells #[] 67))).kept
       clear hr2 hb2 hs2)
    | ((with_reducible show wpList _ _ _ (⟨some 20, _, _, _, _, _⟩ :: _) _ _); go_must (refine appG entK Try.underlying28 entInfo rfl rfl _ _ rfl w2.heap.size (.slice (some ⟨w2.heap.size, 0, none⟩) 0 0) [] rfl (OwnG.lit rfl _ rfl) V.ak V.nk V.ck S.kept rfl HX2.out H48.out (by simp) V.nk (by simp) ?_); intro a3 c3 w3 ho3 hg3
       have hb3 : Below w2.heap.size w2 w3 := ((Below.refl w2.heap.size w2).alloc (Nat.le_refl _) (.cells #[] 67)).grown hg3 (by simp) (fun k hk => by cases hk; exact Nat.le_refl _)
       have HB3 := Lib.hid (HB2.out.trans (hb3.mono HB2.out.size))
       have HR3 := Lib.hid (RBox.below HR2.out hb3)
       have HZ3 := Lib.hid (RowAt.below HZ2.out hb3)
       have HO3 := Lib.hid ho3
       have k6 := (RBox.cells HR3.out).2.2.2.2.2.2.1
       clear ho3 hg3 hb3)
    | (go_at_call 49; (with_reducible refine (PF0.out w3 HB3.out).mono ?_); rintro e _ ⟨rfl, rfl⟩))
  go_loopg [5, 7] k1 (fun g v5 v7 W => ∃ (i m : Nat) (a1 : Option Addr) (c1 : Nat), Below w3.heap.size w3 W ∧ v7 = .int .i64 i ∧ v5 = .slice a1 m c1 ∧ g + i = k1 ∧ Hid (AtG entK W a1 m c1 ((S.acts.take i).foldl turnD S.kept)))
  case atStart => exact ⟨0, V.nk, a3, c3, Below.refl _ _, rfl, rfl, rfl, Lib.hid HO3.out.atG⟩
  case round =>
    obtain ⟨i, m, a1, c1, hbw, rfl, rfl, hg, HN⟩ := hrel
    have HG := Lib.hid hg
    have HBw := Lib.hid hbw
    have HB4 := Lib.hid (HB3.out.trans (hbw.mono HB3.out.size))
    have hi0 : (0 : Int) ≤ (i : Int) := by omega
    have hiI : (i : Int) ≤ (k1 : Int) := by omega
    obtain ⟨q0, q1, q2, q3, q4, q5, q6, q7, q8, q9⟩ := RBox.cells (RBox.below HR3.out hbw)
    clear q0 q1 q2 q3 q4 q5 q7 q8 q9
    by_cases hi : (i : Int) < (k1 : Int)
    · have hin : i < V.na := by have := HK1N.out; omega
      have HIn := Lib.hid (show i < k1 by omega)
      have hac := (HI.out.below HB4.out).acts
      obtain ⟨bA, oA, hbo⟩ := hac.some_ (by omega)
      rw [hbo] at hac q6
      have HRG := Lib.hid (hac.at_ i hin)
      have hia : (i : Int) < (V.na : Int) := by omega
      have HT := Lib.hid (fold_next (d := S.kept) (show i < S.acts.length by rw [HNA.out]; exact hin))
      have HML := Lib.hid (show m ≤ 10000000 by
        have h1 := HN.out.1
        have h2 := fold_length (S.acts.take i) S.kept
        rw [List.length_take] at h2
        have := HD.out
        omega)
      have hpt := refTurned_any a1 m c1 ((S.acts.take i).foldl turnD S.kept) (gd S.acts i) wr _ rfl (HN.out.below ((Below.refl _ _).alloc (Nat.le_refl _) _)) HML.out
      have HPT := Lib.hid hpt
      clear hg hin hac hbo hpt
      go_wp2_with (first
        | (refine wpList_load_mid rfl 81 _ rfl bA (oA + i * 3) rfl (actK.cells (gd S.acts i)) _ HRG.out Try.underlying81 rfl infoA ?_)
        | (go_at_call 38; (refine HPT.out.mono ?_); rintro e w5 ⟨a5, m5, c5, rfl, ho5, hb5⟩))
      go_roundg (k1 - (i + 1))
      case measure => have := HG.out; have := HIn.out; omega
      case rel => exact ⟨i + 1, m5, a5, c5, HBw.out.trans (hb5.mono HBw.out.size), by go_num, rfl, by have := HG.out; have := HIn.out; omega, Lib.hid (by rw [HT.out]; exact ho5.atG)⟩
    · have hik : i = k1 := by omega
      have HL := Lib.hid (show (S.acts.take k1).foldl turnD S.kept = leftS S fs by
        unfold leftS
        rw [HNA.out, HK1.out])
      rw [hik] at HN
      rw [HL.out] at HN
      have HLL := Lib.hid (leftLen fs HFW.out)
      have hmI : (m : Int) ≤ 1000 := by have := HLL.out; have := HN.out.1; omega
      have HML := Lib.hid HN.out.1
      have HRW := Lib.hid (RBox.below HR3.out hbw)
      obtain ⟨q0, q1, q2, q3, q4, q5, q6b, q7, q8, q9⟩ := RBox.cells HRW.out
      have hdb : decide (i < k1) = false := by simp; omega
      have hdbI : decide ((i : Int) < (k1 : Int)) = false := by simp; omega
      clear q0 q2 q3 q4 q5 q6b q8 q9 q6 hg hi hik hbw
      obtain ⟨w4, hw4⟩ : ∃ W, W = wr := ⟨_, rfl⟩
      subst hw4
      have HZ4 := Lib.hid (RowAt.below HZ3.out HBw.out)
      go_wp2_with (first
        | (refine alloc_row rfl 31 zeroD rfl zero_disk ?_; intro w5 hr5 hb5 hs5; have HB5 := Lib.hid hb5; have HR5 := Lib.hid hr5; have HS5 := Lib.hid hs5; clear hr5 hb5 hs5)
        | (refine store_row rfl 31 _ _ rfl w4.heap.size _ zeroD (refL ⟨true, V.q, none, 0, 0, none, 0, 0, none, 0, 0, none, 0, 0, none, 0, 0⟩ (stS S fs 0)) rfl rfl HR5.out rfl infoD (refL_one _ _) ?_; intro w6 hr6 hg6 hs6
           have C0 := Lib.hid (show CM w4 w6 ⟨true, V.q, none, 0, 0, none, 0, 0, none, 0, 0, none, 0, 0, none, 0, 0⟩ (stS S fs 0) (partsH ⟨true, V.q, none, 0, 0, none, 0, 0, none, 0, 0, none, 0, 0, none, 0, 0⟩ (stS S fs 0) []) from ⟨hr6, parts_nil _ _ _ _ _, (HB5.out.grown hg6 HB5.out.size (fun k hk => by cases hk; exact Nat.le_refl _)), by have := HS5.out; omega⟩)
           clear hr6 hg6 hs6))
      clear q1 q7
      have HLEN := Lib.hid (show (leftS S fs).length = m from HML.out)
      go_loopg [9] m (fun gh v9 W => ∃ (i : Nat) (V2 : RVal) (R : List BRow), v9 = .int .i64 i ∧ gh + i = m ∧ i ≤ m ∧ Hid (V2.made = true ∧ V2.q = V.q ∧ V2.nf = i ∧ V2.ny = i ∧ V2.nn = i) ∧ Hid (CM w4 W V2 (stS S fs i) (partsH V2 (stS S fs i) R)) ∧ Hid (R.map (·.l) = (stS S fs i).files.map (·.1)))
      case atStart => exact ⟨0, ⟨true, V.q, none, 0, 0, none, 0, 0, none, 0, 0, none, 0, 0, none, 0, 0⟩, [], rfl, rfl, Nat.zero_le _, Lib.hid ⟨rfl, rfl, rfl, rfl, rfl⟩, C0, Lib.hid rfl⟩
      case round =>
        obtain ⟨i, V2, R, rfl, hgh, him, HV2, HC, HRM⟩ := hrel
        have HGH := Lib.hid hgh
        have hi0 : (0 : Int) ≤ (i : Int) := by omega
        have hiI : (i : Int) ≤ (m : Int) := by omega
        have HBB := Lib.hid (HB4.out.trans (HC.out.below.mono HB4.out.size))
        clear hgh
        by_cases hi : i < m
        · have hib : decide (i < m) = true := by simpa using hi
          have hibI : decide ((i : Int) < (m : Int)) = true := by simp; omega
          have hiI2 : (i : Int) < (m : Int) := by omega
          have HI1 := Lib.hid hi
          obtain ⟨p0, p1, p2, p3, p4, p5, p6, p7, p8, p9⟩ := RBox.cells (RBox.below HRW.out HC.out.below)
          clear p0 p1 p4 p5 p6 p7 p8 p9
          have hLw := HN.out.below HC.out.below
          obtain ⟨bl, ol, rfl⟩ := hLw.some_ (by omega)
          have ce := hLw.at_ i hi
          have hem := gd_mem (L := leftS S fs) (i := i) (by rw [HLEN.out]; exact hi)
          have hfl := HIV.out.lids fs _ hem
          obtain ⟨e, he⟩ : ∃ e, gd (leftS S fs) i = e := ⟨_, rfl⟩
          have HE := Lib.hid he
          rw [he] at ce hfl
          obtain ⟨nm, f⟩ := e
          have ce0 : wr.cell? ⟨bl, ol + i * 2, none⟩ = some (.string (strB nm)) := ce 0 (.string (strB nm)) rfl
          have ce1 : wr.cell? ⟨bl, ol + i * 2 + 1, none⟩ = some (.int .i64 (f : Int)) := ce 1 (.int .i64 (f : Int)) rfl
          have hnf : V.nf = S.files.length := by have := HI.out.files.len; rw [List.length_map] at this; exact this.symm
          have hny : V.ny = S.files.length := by have := HI.out.synced.1; rw [List.length_map] at this; exact this.symm
          obtain ⟨bf, of_, a0, n0, c0, hfo, cf, hby⟩ := (HI.out.below HBB.out).files.at_ (show f < V.nf by rw [hnf]; exact hfl)
          rw [files_get _ _ hfl] at hby
          obtain ⟨by_, oy, hyo⟩ := (HI.out.below HBB.out).synced.some_ (by rw [hny]; exact Nat.lt_of_le_of_lt (Nat.zero_le _) hfl)
          have cy := (hyo ▸ (HI.out.below HBB.out).synced).at_ f (show f < V.ny by rw [hny]; exact hfl) 0 _ rfl
          have hsy := file_syn HIV.out f
          have hqm := HIV.out.most
          obtain ⟨x, hx⟩ : ∃ x, S.files.getD f ([], 0) = x := ⟨_, rfl⟩
          have HX := Lib.hid hx
          have hgy : gd (S.files.map (·.2)) f = x.2 := by rw [← hx]; simp [gd, List.getD_eq_getElem?_getD, List.getElem?_eq_getElem hfl]
          rw [hx] at hby hsy
          obtain ⟨xb, y⟩ := x
          have cy0 : wr.cell? ⟨by_, oy + f, none⟩ = some (.int .i64 (y : Int)) := by
            have h1 := cy
            simp only [hgy, numK] at h1
            simpa using h1
          simp only at hby hsy
          have hn0 : xb.length = n0 := hby.1
          rw [hn0] at hsy
          rw [hfo] at p2
          rw [hyo] at p3
          have HBY := Lib.hid hby
          have hfI : (f : Int) < (V.nf : Int) := by omega
          have hfY : (f : Int) < (V.ny : Int) := by omega
          have hf0 : (0 : Int) ≤ (f : Int) := by omega
          have hy0 : (0 : Int) ≤ (y : Int) := by omega
          have hyn : (y : Int) ≤ (n0 : Int) := by omega
          have hn30 : (n0 : Int) ≤ 1073741824 := by omega
          obtain ⟨kf, hkf⟩ : ∃ k, fateF fs (i + 1) (n0 - y + 1) = k := ⟨_, rfl⟩
          have hkl : kf ≤ n0 - y := by have := fate_le fs (i + 1) (n0 - y + 1) (by omega); omega
          have PFI := Lib.hid (fun W (hb : Below w.heap.size w W) => show Calls Try.prog 49 #[.slice a n c, .int .i64 ((i : Int) + 1), .int .i64 ((n0 : Int) - (y : Int) + 1)] W (fun e w' => e = .returned (.int .i64 (kf : Nat)) ∧ W = w') from by
            have h1 := PF.out W hb (i + 1) (n0 - y + 1) (by omega) (by omega) (by omega)
            rw [hkf] at h1
            rw [show (n0 : Int) - (y : Int) + 1 = ((n0 - y + 1 : Nat) : Int) by omega]
            exact h1)
          obtain ⟨cn, hcn⟩ : ∃ k, y + kf = k := ⟨_, rfl⟩
          have hcI : (y : Int) + (kf : Int) = (cn : Int) := by omega
          have hk0 : (0 : Int) ≤ (kf : Int) := by omega
          have hkI : (kf : Int) ≤ (n0 : Int) - (y : Int) := by omega
          have hcn0 : (cn : Int) ≤ (n0 : Int) := by omega
          have HCN := Lib.hid hcn
          have HKF := Lib.hid hkf
          have HN0 := Lib.hid hn0
          have HSY := Lib.hid hsy
          clear hi him hLw ce hem hfl he hnf hny hfo hby hyo cy hsy hqm hx hgy hn0 hkf hkl hcn ce0
          go_wp2_with fail
          go_quiet (fail)
          obtain ⟨w7, hw7⟩ : ∃ W, wr.drewN nq = W := ⟨_, rfl⟩
          have HB7 := Lib.hid (show Below wr.heap.size wr w7 from hw7 ▸ below_drewN (Below.refl _ _) nq)
          rw [hw7]
          have C7 := Lib.hid (HC.out.on HB7.out)
          have HW7 := Lib.hid (HBB.out.trans (HB7.out.mono HBB.out.size))
          clear hw7 p2 p3 cf cy0 ce1
          go_wp2_with (go_at_call 49; (with_reducible refine (PFI.out w7 HW7.out).mono ?_); rintro e8 _ ⟨rfl, rfl⟩)
          have hbs : ∃ a0', (a0 = a0' ∨ True) ∧ (∀ W : World, (Instr.sliceAt 35 (.slice a0 n0 c0) none (some (.int .i64 (cn : Int))) none).run Try.prog W = .ok (.slice a0' cn c0) W) ∧ Bytes wr a0' cn c0 (xb.take cn) := by
            have hU := Try.underlying35
            have h0 := HBY.out
            have hcc : cn ≤ c0 := Nat.le_trans (by omega) h0.2.1
            refine ⟨if c0 = 0 then a0 else a0.map (·.add (0 * 1)), .inr trivial, fun W => by simp [go_sem, hU, hcc], ?_⟩
            obtain ⟨h1, h2, h3, h4⟩ := h0
            by_cases hc : c0 = 0
            · exact ⟨by simp; omega, hcc, h3, .inl ⟨by omega, hc⟩⟩
            · rw [if_neg hc]
              rcases h4 with ⟨_, h4⟩ | ⟨b, off, rfl, h4⟩
              · exact absurd h4 hc
              · refine ⟨by simp; omega, hcc, h3, .inr ⟨b, off, by simp [Addr.add], fun j hj => ?_⟩⟩
                rw [h4 j (by omega)]
                simp [hj]
          obtain ⟨a0', _, hsl, hbt⟩ := hbs
          have BX := Lib.hid (fun W (hb : Below w7.heap.size w7 W) => (hbt.below HB7.out).below hb)
          have HCL := Lib.hid (show cn ≤ 1073741824 by omega)
          have HRL := Lib.hid (show R.length = V2.nf by
            have h1 := congrArg List.length HRM.out
            rw [List.length_map, List.length_map] at h1
            rw [h1, HV2.out.2.2.1]
            unfold stS leftFiles
            simp only [List.length_mapIdx, List.length_take]
            have := HLEN.out; have := HI1.out; omega)
          have H48R := Lib.hid (show (R.length + 1) * (24 + 1) ≤ 140737488355328 by have := HRL.out; have := HV2.out.2.2.1; omega)
          have HRL1 := Lib.hid (show V2.nf + 1 = R.length + 1 by rw [HRL.out])
          have hnfI : V2.nf ≤ 1000 := by rw [HV2.out.2.2.1]; omega
          obtain ⟨k0, k1', k2, k3, k4, k5, k6', k7, k8, k9⟩ := RBox.cells C7.out.out
          have C7a := Lib.hid (C7.out.on ((Below.refl w7.heap.size w7).alloc (Nat.le_refl _) (.cells #[] 5)))
          have k2a := (RBox.cells C7a.out.out).2.2.1
          clear k0 k1' k3 k4 k5 k6' k7 k8 k9 hbt
          go_wp2_with fail
          go_cut [] from 44 to 106 (fun W => ∃ (a9 : Option Addr) (c9 : Nat) (x : BRow), Hid (x.l = xb.take cn) ∧ Hid (CM w4 W { V2 with af := a9, nf := V2.nf + 1, cf := c9 } (stS S fs i) (partsL (.slice V2.aa V2.na V2.ca) (.slice V2.ak V2.nk V2.ck) (.slice V2.an V2.nn V2.cn) (.slice V2.ay V2.ny V2.cy) (.slice a9 (V2.nf + 1) c9) (stS S fs i) ((stS S fs i).files.map (·.2)) (R ++ [x]))))
          case first =>
            go_region_law (first
            | ((refine wp_appG byteK Try.underlying35 byteInfo rfl _ _ rfl w7.heap.size (.slice (some ⟨w7.heap.size, 0, none⟩) 0 0) [] rfl (OwnG.lit rfl _ rfl) a0' cn c0 (xb.take cn) rfl (at_of_bytes (BX.out _ ((Below.refl _ _).drew.alloc (Nat.le_refl _) _))) (by have := HCL.out; simp; omega) (by simp) cn (by simp) ?_); intro a8 c8 w8 ho8 hg8; have HB8 := Lib.hid (show Below w7.heap.size w7 w8 from ((Below.refl _ _).drew.alloc (Nat.le_refl _) (.cells #[] 5)).grown hg8 (by simp) (fun k hk => by cases hk; exact Nat.le_refl _)); have C8 := Lib.hid (C7.out.add (h := hB ⟨a8, cn, c8, xb.take cn⟩) HB8.out (own_of_byte ho8)); have C8a := Lib.hid (C8.out.on ((Below.refl w8.heap.size w8).alloc (Nat.le_refl _) (.cells #[.slice a8 cn c8] 35))); have u8 := (RBox.cells C8.out.out).2.2.1; have u8a := (RBox.cells C8a.out.out).2.2.1; clear ho8 hg8)
            | ((refine wp_appG_told rowK Try.underlying26 rowInfo rfl _ _ rfl (w4.heap.size + 1) (.slice V2.af V2.nf V2.cf) R rfl (C8a.out.hold.gG (K := rowK) (E := 35) (v := .slice V2.af V2.nf V2.cf) (M := R) (fun _ => trivial) (by simp)) _ 1 1 [⟨a8, cn, c8, xb.take cn⟩] rfl (oneG _ _ trivial _ _ rfl) H48R.out C8a.out.bas (V2.nf + 1) HRL1.out ?_); intro a9 c9 w9 ho9 hg9 ht9; have C9 := Lib.hid (CM.row C8a.out hg9 ho9 ht9); have r2 := (RBox.cells C9.out.out).2.2.1; have f2 := C9.out.out.free 2; clear ho9 hg9 ht9))
            all_goals (
              go_wp2
              go_meet
              case rel => exact ⟨a9, c9, ⟨a8, cn, c8, xb.take cn⟩, Lib.hid rfl, Lib.hid (C9.out.store 2 (.slice a9 (V2.nf + 1) c9) rfl)⟩)
          case rest =>
            obtain ⟨a9, c9, x, HXL, CC⟩ := hcut
            have CCa := Lib.hid (CC.out.on ((Below.refl wc.heap.size wc).alloc (Nat.le_refl _) (.cells #[.int .i64 (cn : Int)] 3)))
            have HYL := Lib.hid (show ((stS S fs i).files.map (fun x : FileD => x.2)).length = V2.ny by
              rw [List.length_map, HV2.out.2.2.2.1]
              unfold stS leftFiles
              simp only [List.length_mapIdx, List.length_take]
              have := HLEN.out; have := HI1.out; omega)
            have HNL := Lib.hid (show (stS S fs i).now.length = V2.nn by
              rw [HV2.out.2.2.2.2]
              unfold stS leftNow
              simp only [List.length_mapIdx, List.length_take]
              have := HLEN.out; have := HI1.out; omega)
            have H48Y := Lib.hid (show (((stS S fs i).files.map (fun x : FileD => x.2)).length + 1) * (8 + 1) ≤ 140737488355328 by have := HYL.out; have := HV2.out.2.2.2.1; omega)
            have H48N := Lib.hid (show ((stS S fs i).now.length + 1) * (24 + 1) ≤ 140737488355328 by have := HNL.out; have := HV2.out.2.2.2.2; omega)
            have HYL1 := Lib.hid (show V2.ny + 1 = ((stS S fs i).files.map (fun x : FileD => x.2)).length + 1 by rw [HYL.out])
            have HNL1 := Lib.hid (show V2.nn + 1 = (stS S fs i).now.length + 1 by rw [HNL.out])
            have hnyI : (V2.ny : Int) ≤ 1000 := by have := HV2.out.2.2.2.1; omega
            have hnnI : (V2.nn : Int) ≤ 1000 := by have := HV2.out.2.2.2.2; omega
            have r3 := (RBox.cells CC.out.out).2.2.2.1
            clear hnfI k2 k2a hsl
            go_wp2_with (first
              | ((with_reducible show wpList _ _ _ (⟨some 93, _, _, _, _, _⟩ :: _) _ _); go_must (refine appG_told numK Try.underlying27 numInfo rfl rfl _ _ rfl (w4.heap.size + 1) (.slice V2.ay V2.ny V2.cy) ((stS S fs i).files.map (fun x : FileD => x.2)) rfl (CCa.out.hold.gG (K := numK) (E := 3) (v := .slice V2.ay V2.ny V2.cy) (M := (stS S fs i).files.map (fun x : FileD => x.2)) (fun _ => trivial) (by simp)) _ 1 1 [cn] rfl (oneG _ _ trivial _ _ rfl) H48Y.out CCa.out.bas (V2.ny + 1) HYL1.out ?_); intro a10 c10 w10 ho10 hg10 ht10
                 have C10 := Lib.hid (CM.num CCa.out hg10 ho10 ht10)
                 have r3' := (RBox.cells C10.out.out).2.2.2.1
                 have f3' := C10.out.out.free 3
                 obtain ⟨W11, hW11⟩ : ∃ W, w10.setCell ⟨w4.heap.size, 3, none⟩ (.slice a10 (V2.ny + 1) c10) = W := ⟨_, rfl⟩
                 have C11 := Lib.hid (show CM w4 W11 { V2 with af := a9, nf := V2.nf + 1, cf := c9, ay := a10, ny := V2.ny + 1, cy := c10 } (stS S fs i) _ from hW11 ▸ C10.out.store 3 (.slice a10 (V2.ny + 1) c10) rfl)
                 clear ho10 hg10 ht10))
            have C11a := Lib.hid (C11.out.on ((Below.refl W11.heap.size W11).alloc (Nat.le_refl _) (.cells #[.string (strB nm), .int .i64 (i : Int)] 67)))
            have HLN := Lib.hid ((HN.out.below C11.out.below).at_ i HI1.out)
            have ce0 : W11.cell? ⟨bl, ol + i * 2, none⟩ = some (.string (strB nm)) := HLN.out 0 (.string (strB nm)) (by rw [HE.out]; rfl)
            have r4 := (RBox.cells C11.out.out).2.2.2.2.1
            have r4a := (RBox.cells C11a.out.out).2.2.2.2.1
            clear r3 r3' f3' hW11
            go_region_law ((refine wp_appG_told entK Try.underlying28 entInfo rfl _ _ rfl (w4.heap.size + 1) (.slice V2.an V2.nn V2.cn) (stS S fs i).now rfl (C11a.out.hold.gG (K := entK) (E := 67) (v := .slice V2.an V2.nn V2.cn) (M := (stS S fs i).now) (fun _ => trivial) (by simp)) _ 1 1 [(nm, i)] rfl (oneG _ _ trivial _ _ rfl) H48N.out C11a.out.bas (V2.nn + 1) HNL1.out ?_); intro a12 c12 w12 ho12 hg12 ht12; have C12 := Lib.hid (CM.now C11a.out (by first | exact grown_drew hg12 | exact hg12) ho12 (by first | exact told_drew ht12 | exact ht12)); have r4' := (RBox.cells C12.out.out).2.2.2.2.1; have f4' := C12.out.out.free 4; clear ho12 hg12 ht12)
            all_goals (
              go_wp2
              go_roundg (m - (i + 1))
              case measure => have := HGH.out; have := HI1.out; omega
              case rel => exact ⟨i + 1, { V2 with af := a9, nf := V2.nf + 1, cf := c9, ay := a10, ny := V2.ny + 1, cy := c10, an := a12, nn := V2.nn + 1, cn := c12 }, R ++ [x], by go_num, by have := HGH.out; have := HI1.out; omega, HI1.out, Lib.hid ⟨HV2.out.1, HV2.out.2.1, by rw [HV2.out.2.2.1], by rw [HV2.out.2.2.2.1], by rw [HV2.out.2.2.2.2]⟩,
                Lib.hid (cm_next (C12.out.store 4 (.slice a12 (V2.nn + 1) c12) rfl) (cut_next HLEN.out HI1.out HE.out HX.out HN0.out HKF.out HCN.out).1 (cut_next HLEN.out HI1.out HE.out HX.out HN0.out HKF.out HCN.out).2.1),
                Lib.hid (by rw [List.map_append, HRM.out, List.map_cons, List.map_nil, HXL.out]; exact (cut_next HLEN.out HI1.out HE.out HX.out HN0.out HKF.out HCN.out).2.2)⟩)
        · have hdm : decide (i < m) = false := by simpa using hi
          have hdmI : decide ((i : Int) < (m : Int)) = false := by simp; omega
          have him2 : i = m := by omega
          have HST := Lib.hid (show leftFiles S.files ((leftS S fs).take i) fs = (crashS S fs).files ∧ leftNow ((leftS S fs).take i) = (crashS S fs).now by
            rw [List.take_of_length_le (by rw [HLEN.out]; omega)]; exact ⟨rfl, rfl⟩)
          have hnnI : V2.nn ≤ 1000 := by rw [HV2.out.2.2.2.2]; omega
          have HNL := Lib.hid (show (stS S fs i).now.length = V2.nn by
            rw [HV2.out.2.2.2.2]
            unfold stS leftNow
            simp only [List.length_mapIdx, List.length_take]
            have := HLEN.out; omega)
          have H48N := Lib.hid (show (([] : Dir).length + V2.nn) * (24 + 1) ≤ 140737488355328 by simp; omega)
          have CCa := Lib.hid (HC.out.on ((Below.refl wr.heap.size wr).alloc (Nat.le_refl _) (.cells #[] 67)))
          have r4a := (RBox.cells CCa.out.out).2.2.2.2.1
          have HZR := Lib.hid (RowAt.below HZ4.out HC.out.below)
          have HW14 := Lib.hid (show w1.heap.size < w4.heap.size from HZ4.out.lt)
          clear hi him him2
          go_wp2_with (first
            | ((with_reducible show wpList _ _ _ (⟨some 110, _, _, _, _, _⟩ :: _) _ _); go_must (refine appG entK Try.underlying28 entInfo rfl rfl _ _ rfl wr.heap.size (.slice (some ⟨wr.heap.size, 0, none⟩) 0 0) [] rfl (OwnG.lit rfl _ rfl) V2.an V2.nn V2.cn (stS S fs i).now rfl (CCa.out.hold.gG (K := entK) (E := 67) (v := .slice V2.an V2.nn V2.cn) (M := (stS S fs i).now) (fun _ => trivial) (by simp)).atG H48N.out (by simp) V2.nn (by simp) ?_); intro a20 c20 w20 ho20 hg20
               have HB20 := Lib.hid (((Below.refl wr.heap.size wr).alloc (Nat.le_refl _) (.cells #[] 67)).grown hg20 (by simp) (fun k hk => by cases hk; exact Nat.le_refl _))
               have C20 := Lib.hid (HC.out.add (h := hG entK 67 (.slice a20 V2.nn c20) (stS S fs i).now) HB20.out ho20.1)
               have HZ20 := Lib.hid (RowAt.below HZR.out HB20.out)
               have r5 := (RBox.cells C20.out.out).2.2.2.2.2.1
               have f5 := C20.out.out.free 5
               obtain ⟨W21, hW21⟩ : ∃ W, w20.setCell ⟨w4.heap.size, 5, none⟩ (.slice a20 V2.nn c20) = W := ⟨_, rfl⟩
               have C21 := Lib.hid (show CM w4 W21 { V2 with ak := a20, nk := V2.nn, ck := c20 } (crashS S fs) _ from hW21 ▸ C20.out.store 5 (.slice a20 V2.nn c20) rfl)
               have HZ21 := Lib.hid (show RowAt W21 w1.heap.size 31 zeroD from hW21 ▸ RowAt.other HZ20.out (show w1.heap.size ≠ w4.heap.size by have := HW14.out; omega) _)
               clear ho20 hg20)
            | (refine load_row rfl 31 _ rfl w4.heap.size _ (refL { V2 with ak := a20, nk := V2.nn, ck := c20 } (crashS S fs)) _ rfl C21.out.out Try.underlying31 rfl infoD ?_)
            | (refine store_row rfl 31 _ _ rfl w1.heap.size _ zeroD (refL { V2 with ak := a20, nk := V2.nn, ck := c20 } (crashS S fs)) rfl rfl HZ21.out rfl infoD (refL_one _ _) ?_; intro w22 hr22 hg22 _))
          have HFI := Lib.hid (C21.out.hold.grownLow (show w1.heap.size < w4.heap.size + 1 by have := HW14.out; omega) hg22)
          have HB21 := Lib.hid (HB4.out.trans (C21.out.below.mono HB4.out.size))
          refine bodyPost_ret (results_ref1 rfl _ _ w1.heap.size _ (crashS S fs) rfl hr22) rfl ⟨_, rfl, HV2.out.1, HV2.out.2.1, holds_far HFI.out (Nat.le_succ_of_le HB4.out.size) (fun W'' HFJ => ⟨rows_in (R := R) HFJ (by simp) (fun y hy => by simp only [List.mem_cons, List.mem_map]; exact .inr (.inr (.inr (.inr (.inr (.inr ⟨y, hy, rfl⟩)))))) (by rw [HRM.out]; exact congrArg (List.map (·.1)) HST.out.1), ?_, ?_, ?_, ?_⟩), HB21.out.grown hg22 HB21.out.size (fun k hk => by cases hk; exact HW1.out)⟩
          · have h1 := (HFJ.gG (E := 3) (K := numK) (v := .slice V2.ay V2.ny V2.cy) (M := (stS S fs i).files.map (fun x : FileD => x.2)) (fun _ => trivial) (by simp)).atG
            have h2 : (stS S fs i).files.map (fun x : FileD => x.2) = (crashS S fs).files.map (fun x : FileD => x.2) := congrArg (List.map (·.2)) HST.out.1
            rw [h2] at h1; exact h1
          · have h1 := (HFJ.gG (E := 67) (K := entK) (v := .slice V2.an V2.nn V2.cn) (M := (stS S fs i).now) (fun _ => trivial) (by simp)).atG
            have h2 : (stS S fs i).now = (crashS S fs).now := HST.out.2
            rw [h2] at h1; exact h1
          · have h1 := (HFJ.gG (E := 67) (K := entK) (v := .slice a20 V2.nn c20) (M := (stS S fs i).now) (fun _ => trivial) (by simp)).atG
            have h2 : (stS S fs i).now = (crashS S fs).kept := HST.out.2
            rw [h2] at h1; exact h1
          · exact (HFJ.gG (E := 81) (K := actK) (v := .slice V2.aa V2.na V2.ca) (M := (crashS S fs).acts) (fun _ => trivial) (by simp [crashS, stS])).atG
#print axioms refCrash_any
end Go.Proofs.Ytemphljkfpkgmaa
