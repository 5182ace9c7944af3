/-
  Cost, and the document's Same, walked.
-/
import Derived.Test.YtbfaaphijgmabaaDoorMyDiff
namespace Go.Proofs.YtbfaaphijgmabaaDoor
open Go.RowKit My

/-- What edits cost. -/
def posI (d : Int) : Int := if d < 0 then 0 else d
def costV : List EdV → Int
  | [] => 0
  | x :: L => posI x.d + (cntE x.s).1 + costV L
theorem costV_append (L M : List EdV) : costV (L ++ M) = costV L + costV M := by
  induction L with
  | nil => simp [costV]
  | cons x L ih => simp only [List.cons_append, costV, ih]; omega
/-- Edits that are not too great. -/
structure Mild (L : List EdV) : Prop where
  few : L.length ≤ 100000
  d : ∀ x ∈ L, x.d ≤ 1099511627776
  s : ∀ x ∈ L, x.s.length ≤ 20000000
theorem posI_bd {d : Int} (h : d ≤ 1099511627776) : 0 ≤ posI d ∧ posI d ≤ 1099511627776 := by unfold posI; split <;> omega
theorem cnt_le (l : List UInt8) : (cntE l).1 ≤ l.length := by
  rcases runesF_cases l with ⟨L, hL⟩ | ⟨p, hL⟩
  · rw [cntE_some hL]; exact runesF_len hL
  · rw [cntE_none hL]; exact Nat.zero_le _
theorem costV_bd {L : List EdV} (h : Mild L) : 0 ≤ costV L ∧ costV L ≤ L.length * 1099531627776 := by
  obtain ⟨h1, h2, h3⟩ := h
  clear h1
  induction L with
  | nil => simp [costV]
  | cons x L ih =>
    have i1 := ih (fun y hy => h2 y (List.mem_cons_of_mem _ hy)) (fun y hy => h3 y (List.mem_cons_of_mem _ hy))
    have i2 := posI_bd (h2 x (by simp))
    have i3 := cnt_le x.s
    have i4 := h3 x (by simp)
    simp only [costV, List.length_cons]
    omega
theorem take_gd {L : List EdV} {i : Nat} (hi : i < L.length) : costV (L.take (i + 1)) = costV (L.take i) + posI (gd L i).d + (cntE (gd L i).s).1 := by
  rw [List.take_succ_eq_append_getElem hi, costV_append]
  have e : gd L i = L[i] := by unfold gd; simp [hi]
  rw [e]
  simp only [costV]
  omega
theorem Mild.take {L : List EdV} (h : Mild L) (i : Nat) : Mild (L.take i) := ⟨by have := h.few; rw [List.length_take]; omega, fun x hx => h.d x (List.mem_of_mem_take hx), fun x hx => h.s x (List.mem_of_mem_take hx)⟩
theorem index_two0 (x : Int) (k : Nat) (W : World) : (Instr.index 70 (.agg #[.int .i64 x, .int .i64 (k : Int)]) (.int .i64 0)).run Tryd.prog W = .ok (.int .i64 x) W := by kernel_rfl
theorem index_two1 (x : Int) (k : Nat) (W : World) : (Instr.index 70 (.agg #[.int .i64 x, .int .i64 (k : Int)]) (.int .i64 1)).run Tryd.prog W = .ok (.int .i64 (k : Int)) W := by kernel_rfl
def CostIs (z : Int) (w : World) (e : Ending) (w' : World) : Prop := e = .returned (.int .i64 z) ∧ Below w.heap.size w w'
set_option maxRecDepth 100000 in
set_option maxHeartbeats 4000000 in
theorem cost_any (a : Option Addr) (n c : Nat) (L : List EdV) (w : World) (h : AtG edK w a n c L) (hM : Mild L) (hT : Tabs w) :
    Calls Tryd.prog 18 #[.slice a n c] w (CostIs (costV L) w) := by
  have HL := Lib.hid h
  have HLN := Lib.hid h.1
  have HMI := Lib.hid hM
  have HT := Lib.hid hT
  have hnI : (n : Int) ≤ 100000 := by have := hM.few; have := h.1; omega
  clear h hM hT
  go_enter Tryd.func18, Tryd.ntmps18
  go_wp2_with fail
  go_loopg [3, 12] n (fun gh v3 v12 W => ∃ i : Nat, v12 = .int .i64 i ∧ v3 = .int .i64 (costV (L.take i)) ∧ gh + i = n ∧ Hid (Below w.heap.size w W))
  case atStart => exact ⟨0, rfl, rfl, rfl, Lib.hid (Below.refl _ _)⟩
  case round =>
    obtain ⟨i, rfl, rfl, hgh, HB⟩ := hrel
    have HGH := Lib.hid hgh
    have hi0 : (0 : Int) ≤ (i : Int) := by omega
    have hin : (i : Int) ≤ (n : Int) := by omega
    clear hgh
    by_cases hi : (i : Int) < (n : Int)
    · have hib : decide (i < n) = true := by simp; omega
      have HI := Lib.hid (show i < n by omega)
      have HLw := Lib.hid (HL.out.below HB.out)
      obtain ⟨b, off, rfl⟩ := HL.out.some_ (by omega)
      have hx := HLw.out.at_ i HI.out
      have HTG := Lib.hid (take_gd (show i < L.length by rw [HLN.out]; exact HI.out))
      have hmem := gd_mem (L := L) (i := i) (by rw [HLN.out]; exact HI.out)
      have hbd := costV_bd (HMI.out.take i)
      have hxd := posI_bd (HMI.out.d _ hmem)
      have hxs := cnt_le (gd L i).s
      have hxl := HMI.out.s _ hmem
      have htl : (L.take i).length ≤ 100000 := by have := HMI.out.few; rw [List.length_take]; omega
      obtain ⟨x, hxg⟩ : ∃ x, gd L i = x := ⟨_, rfl⟩
      rw [hxg] at hx HTG hxd hxs hxl
      obtain ⟨cn, hcn⟩ : ∃ k, (cntE x.s) = k := ⟨_, rfl⟩
      obtain ⟨cv, hcv⟩ : ∃ k, costV (L.take i) = k := ⟨_, rfl⟩
      obtain ⟨pd, hpd⟩ : ∃ k, posI x.d = k := ⟨_, rfl⟩
      have hpm : pd = if x.d < 0 then 0 else x.d := by rw [← hpd]; rfl
      have CT := Lib.hid (fun W (hb : Below w.heap.size w W) => count_any (strB x.s) W (by rw [strB_size]; omega) (HT.out.below hb))
      rw [strB_list, hcn] at CT
      rw [hcn, hcv, hpd] at HTG
      rw [hcn] at hxs
      rw [hcv] at hbd
      rw [hpd] at hxd
      rw [hcv]
      have x0 : wr.cell? ⟨b, off + i * 3, none⟩ = some (.int .i64 x.k) := hx 0 (.int .i64 x.k) rfl
      have x1 : wr.cell? ⟨b, off + i * 3 + 1, none⟩ = some (.int .i64 x.d) := hx 1 (.int .i64 x.d) rfl
      have x2 : wr.cell? ⟨b, off + i * 3 + 2, none⟩ = some (.string (strB x.s)) := hx 2 (.string (strB x.s)) rfl
      obtain ⟨cn1, cn2⟩ := cn
      simp only at hxs HTG CT
      have HPM := Lib.hid hpm
      have HPD := Lib.hid hxd
      have HCV := Lib.hid hbd
      have HCN := Lib.hid (show (cn1 : Int) ≤ 20000000 by omega)
      clear hx hxg hcn hcv hpd hpm hmem hxs hxl
      have hp0 : 0 ≤ pd := HPD.out.1
      have hc0 : 0 ≤ cv := HCV.out.1
      have hp1 : pd ≤ 1099511627776 := HPD.out.2
      have hc1 : cv ≤ 200000000000000000 := by have := HCV.out.2; omega
      have hn1 : (cn1 : Int) ≤ 20000000 := HCN.out
      clear hbd hxd htl
      go_wp2_with (first
        | (go_at_call 22; (refine (CT.out _ (HB.out.alloc HB.out.size _)).mono ?_); rintro en w4 ⟨rfl, hb4⟩
           have y1 := cell_below (show (wr.alloc (.cells #[.int .i64 x.k, .int .i64 x.d, .string (strB x.s)] 39)).cell? ⟨wr.heap.size, 1, none⟩ = some (.int .i64 x.d) by simp) hb4
           have HB4 := Lib.hid ((HB.out.alloc HB.out.size (.cells #[.int .i64 x.k, .int .i64 x.d, .string (strB x.s)] 39)).trans (hb4.mono (by have := HB.out.size; simp; omega)))
           clear hb4 x0 x1 x2)
        | ((with_reducible show wpList _ _ _ (⟨some 24, _, _, _, _, _⟩ :: _) _ _); refine wl_maxI rfl _ _ _ rfl x.d 0 pd rfl rfl HPM.out ?_))
      go_loopg [3, 27] 2 (fun gh v3 v27 W => ∃ j : Nat, v27 = .int .i64 j ∧ v3 = .int .i64 (if j = 0 then cv else if j = 1 then cv + pd else cv + pd + cn1) ∧ gh + j = 2 ∧ W = w4)
      case atStart => exact ⟨0, rfl, rfl, rfl, rfl⟩
      case round =>
        obtain ⟨j, rfl, rfl, hgj, rfl⟩ := hrel
        have hj : j = 0 ∨ j = 1 ∨ j = 2 := by omega
        have HGJ := Lib.hid hgj
        clear hgj
        have hs1 : (0 : Int) ≤ cv + pd := by omega
        rcases hj with rfl | rfl | rfl
        · rw [if_pos rfl]
          have e0 : ((0 : Nat) : Int) = 0 := rfl
          rw [e0]
          have hx0 := fun W => index_two0 pd cn1 W
          go_wp2
          go_roundg 1
          case measure => have := HGJ.out; omega
          case rel => exact ⟨1, rfl, by rw [Int.min_eq_left (by omega)]; rfl, rfl, rfl⟩
        · rw [if_neg (by omega), if_pos rfl]
          have e0 : ((1 : Nat) : Int) = 1 := rfl
          rw [e0]
          have hx0 := fun W => index_two1 pd cn1 W
          go_wp2
          go_roundg 0
          case measure => have := HGJ.out; omega
          case rel => exact ⟨2, rfl, by rw [Int.min_eq_left (by omega)]; rfl, rfl, rfl⟩
        · rw [if_neg (by omega), if_neg (by omega)]
          have e0 : ((2 : Nat) : Int) = 2 := rfl
          rw [e0]
          go_wp2
          go_roundg (n - (i + 1))
          case measure => have := HGH.out; have := HI.out; omega
          case rel => exact ⟨i + 1, by go_num, by rw [HTG.out], by have := HGH.out; have := HI.out; omega, HB4⟩
    · have hib : decide (i < n) = false := by simp; omega
      have HE := Lib.hid (show L.take i = L by rw [List.take_of_length_le (by rw [HLN.out]; omega)])
      go_wp2
      go_ret
      rw [HE.out]
      exact ⟨rfl, HB.out⟩
#print axioms cost_any
end Go.Proofs.YtbfaaphijgmabaaDoor
