/-
  The walk of the program's Rank: the places of floats, the greatest ones first, no numbers last.
-/
import Derived.Test.YtkafeadgjpglaaaRankC
import Derived.Test.YtkafeadgjpglaaaScoreShelf
namespace Go.Proofs.Ytkafeadgjpglaaa
open Go.RowKit Go.Sort Go.Lib

/-- A float's key: the less, the further ahead it is ranked. -/
def kf (x : Nat) : Int := if nanB x then 1 else -(riseF x : Int)
theorem furF_kf {x y : Nat} (hx : x < 18446744073709551616) (hy : y < 18446744073709551616) : furF x y = intO (kf x) (kf y) := by
  unfold furF kf ordF intO
  cases hnx : nanB x <;> cases hny : nanB y
  · simp only [if_true, Bool.false_eq_true, if_false]
    split <;> split <;> first | rfl | omega | (split <;> first | rfl | omega)
  · have h1 := num_rise hx hnx
    have h2 := nan_rise hny
    simp only [Bool.false_eq_true, if_false, if_true]
    rw [if_pos (by omega), if_pos (by omega)]
  · have h1 := nan_rise hnx
    have h2 := num_rise hy hny
    simp only [Bool.true_eq_false, Bool.false_eq_true, if_false, if_true]
    rw [if_neg (by omega), if_pos (by omega), if_neg (by omega), if_pos (by omega)]
  · have h1 := nan_rise hnx
    have h2 := nan_rise hny
    simp only [if_true]
    rw [if_neg (by omega), if_neg (by omega), if_neg (by omega), if_neg (by omega)]

/-- Ranked ahead: by the keys, then by the places. -/
theorem rankF_lt {L : List Nat} (h : W64 L) (i j : Nat) : rankF L i j < 0 ↔ kf (L.getD i 0) < kf (L.getD j 0) ∨ (kf (L.getD i 0) = kf (L.getD j 0) ∧ i < j) := by
  unfold rankF
  rw [furF_kf (h i) (h j)]
  unfold or2F intO
  generalize kf (L.getD i 0) = a
  generalize kf (L.getD j 0) = b
  by_cases h1 : a < b
  · simp [h1]
  · by_cases h2 : b < a
    · simp [h1, h2]; omega
    · have h3 : a = b := by omega
      simp [h3]
      by_cases h4 : i < j
      · simp [h4]
      · by_cases h5 : j < i <;> simp [h4, h5]

def cfR (L : List Nat) (n : Nat) (x y : Fin n) : Int := rankF L x.val y.val
theorem ltR {L : List Nat} (h : W64 L) {n : Nat} (x y : Fin n) : ltOf (cfR L n) x y = true ↔ kf (L.getD x.val 0) < kf (L.getD y.val 0) ∨ (kf (L.getD x.val 0) = kf (L.getD y.val 0) ∧ x.val < y.val) := by
  unfold ltOf cfR
  rw [decide_eq_true_iff, rankF_lt h]
theorem ltR_f {L : List Nat} (h : W64 L) {n : Nat} (x y : Fin n) : ltOf (cfR L n) x y = false ↔ ¬ (kf (L.getD x.val 0) < kf (L.getD y.val 0) ∨ (kf (L.getD x.val 0) = kf (L.getD y.val 0) ∧ x.val < y.val)) := by
  rw [← ltR h]; simp
theorem swoR {L : List Nat} (h : W64 L) (n : Nat) : SWO (ltOf (cfR L n)) where
  irrefl x := by rw [ltR_f h]; omega
  trans x y z h1 h2 := by rw [ltR h] at *; omega
  ntrans x y z h1 h2 := by rw [ltR_f h] at *; omega
theorem totR {L : List Nat} (h : W64 L) {n : Nat} (x y : Fin n) (h1 : ltOf (cfR L n) x y = false) (h2 : ltOf (cfR L n) y x = false) : x = y := by
  rw [ltR_f h] at h1 h2
  apply Fin.ext
  omega

/-- The places in their ranks. -/
def rankS (L : List Nat) : List Nat := ((List.finRange L.length).mergeSort fun x y => !(ltOf (cfR L L.length)) y x).map Fin.val
/-- Just these places, each ranked ahead of the next ones. -/
def Ranked (L R : List Nat) : Prop := R.Perm (List.range L.length) ∧ R.Pairwise fun i j => rankF L i j < 0
theorem rankS_ranked {L : List Nat} (h : W64 L) : Ranked L (rankS L) := by
  unfold rankS
  constructor
  · have h1 := (List.mergeSort_perm (List.finRange L.length) fun x y => !(ltOf (cfR L L.length)) y x).map Fin.val
    have h2 : (List.finRange L.length).map Fin.val = List.range L.length := by
      apply List.ext_getElem
      · simp
      · intro i h3 h4; simp
    rwa [h2] at h1
  · have h1 := List.pairwise_mergeSort (le := fun x y => !(ltOf (cfR L L.length)) y x) (fun a b c h1 h2 => by
        simp only [Bool.not_eq_true'] at h1 h2 ⊢
        rw [ltR_f h] at h1 h2 ⊢; omega) (fun a b => by
        cases hh : ltOf (cfR L L.length) b a
        · rfl
        · rw [ltR h] at hh
          have : ltOf (cfR L L.length) a b = false := by rw [ltR_f h]; omega
          simp [this]) (List.finRange L.length)
    have hn : ((List.finRange L.length).mergeSort fun x y => !(ltOf (cfR L L.length)) y x).Nodup := (List.mergeSort_perm _ _).symm.nodup (List.nodup_finRange _)
    rw [List.pairwise_map]
    refine (List.Pairwise.and h1 hn).imp (fun {a b} hh => ?_)
    obtain ⟨h2, h3⟩ := hh
    simp only [Bool.not_eq_true'] at h2
    rw [ltR_f h] at h2
    rw [rankF_lt h]
    have h4 : a.val ≠ b.val := fun e => h3 (Fin.ext e)
    omega
theorem ranked_unique {L R S : List Nat} (h : W64 L) (hR : Ranked L R) (hS : Ranked L S) : R = S :=
  List.Perm.eq_of_pairwise (fun a b _ _ h1 h2 => by rw [rankF_lt h] at h1 h2; omega) hR.2 hS.2 (hR.1.trans hS.1.symm)
theorem Ranked.length {L R : List Nat} (h : Ranked L R) : R.length = L.length := by rw [h.1.length_eq, List.length_range]
theorem Ranked.lt {L R : List Nat} (h : Ranked L R) {x : Nat} (hx : x ∈ R) : x < L.length := List.mem_range.1 (h.1.mem_iff.1 hx)

/-! ### The world that sorting passes through -/
theorem heap_sortWorld {α : Type} [Inhabited α] (enc : α → Value) (w : World) (blk off m : Nat) (d : Array α) (os : Array Obj) {k : Nat} (hk : k < w.heap.size) (hne : k ≠ blk) : (sortWorld enc w blk off m d os).heap[k]? = w.heap[k]? := by
  unfold sortWorld
  rw [heap_grow_old _ _ (by simpa using hk)]
  unfold putRow mapBlock
  simp only [Sort.heap_ahead]
  rw [Array.getElem?_modify, if_neg (fun e => hne e.symm)]
theorem below_sortWorld {α : Type} [Inhabited α] (enc : α → Value) (w0 w : World) (base blk off m : Nat) (d : Array α) (os : Array Obj) (h : Below base w0 w) (hb : base ≤ blk) (hs : base ≤ w.heap.size) : Below base w0 (sortWorld enc w blk off m d os) := by
  refine ⟨h.os, h.tape, h.output, ?_, fun k hk => ?_⟩
  · have := h.size
    unfold sortWorld
    rw [size_grow, Sort.size_putRow]
    simp only [Sort.heap_ahead]
    omega
  · rw [heap_sortWorld enc w blk off m d os (by omega) (by omega)]
    exact h.block k hk

theorem rankS_length (L : List Nat) : (rankS L).length = L.length := by unfold rankS; simp

/-- Rank's comparing closure, its slice captured in a block. -/
def cmpR (g1 : Nat) : Value := .func (.func 62) #[] #[.pointer (some ⟨g1, 0, none⟩)]

theorem rank_sorts (g1 g2 b off n c : Nat) (L : List Nat) (W : World) (hcell : W.cell? ⟨g1, 0, none⟩ = some (.slice (some ⟨b, off, none⟩) n c)) (hL : At1 F W (some ⟨b, off, none⟩) n c L) (h64 : W64 L) (hn : n ≤ 1000000000)
    (hrow : ∀ j, j < n → W.cell? ⟨g2, j, none⟩ = some (N j) ∧ W.frozen? ⟨g2, j, none⟩ = false) (h12 : g2 ≠ g1) (hb2 : g2 ≠ b) (hp : 0 < n) :
    Calls Try.prog 61 #[.slice (some ⟨g2, 0, none⟩) n n, cmpR g1] W fun e w' => e = .returned (.tuple #[]) ∧ At1 N w' (some ⟨g2, 0, none⟩) n n (rankS L) ∧ (∀ base w0, Below base w0 W → base ≤ g2 → base ≤ W.heap.size → Below base w0 w') := by
  obtain ⟨m, rfl⟩ : ∃ m, n = m + 1 := ⟨n - 1, by omega⟩
  have hlen := hL.1
  have hg1 : g1 < W.heap.size := World.block_lt_of_cell? _ _ hcell
  have hg2 : g2 < W.heap.size := World.block_lt_of_cell? _ _ (hrow 0 (by omega)).1
  have hbb : b < W.heap.size := World.block_lt_of_cell? _ _ (hL.cell 0 (by omega))
  let enc : Fin (m + 1) → Value := fun i => N i.val
  let d : Array (Fin (m + 1)) := (List.finRange (m + 1)).toArray
  have hds : d.size = m + 1 := by simp [d]
  have hdl : d.toList = List.finRange (m + 1) := rfl
  have hH : Holds enc W g2 0 d := fun j hj => by
    have hj' : j < m + 1 := by rw [← hds]; exact hj
    have e : d[j]! = ⟨j, hj'⟩ := by
      rw [getElem!_pos d j hj]
      simp [d]
    rw [e, Nat.zero_add]
    exact hrow j hj'
  have eg : ∀ args w, (callFunc 62 args).run Try.prog w = .ok (.enter 62 args) w := enters_of Try.func62 (by kernel_rfl) rfl
  have hcmp : CmpLays1 Try.prog 62 #[.pointer (some ⟨g1, 0, none⟩)] enc (cfR L (m + 1)) g2 0 d.size W := by
    intro q os dk hdk x y
    have hold : ∀ k, k < W.heap.size → k ≠ g2 → (sortWorld enc W g2 0 q dk os).heap[k]? = W.heap[k]? := fun k hk hne => heap_sortWorld enc W g2 0 q dk os hk hne
    have c1 : (sortWorld enc W g2 0 q dk os).cell? ⟨g1, 0, none⟩ = some (.slice (some ⟨b, off, none⟩) (m + 1) c) := by
      rw [World.cell?_of_block (a := ⟨g1, 0, none⟩) (hold g1 hg1 (Ne.symm h12))]; exact hcell
    have c2 : At1 F (sortWorld enc W g2 0 q dk os) (some ⟨b, off, none⟩) (m + 1) c L := by
      obtain ⟨h1, h2, h3, h4⟩ := hL
      refine ⟨h1, h2, h3, ?_⟩
      rcases h4 with h4 | ⟨b', off', ha, hc⟩
      · exact .inl h4
      · simp only [Option.some.injEq, Addr.mk.injEq, and_true] at ha
        obtain ⟨rfl, rfl⟩ := ha
        exact .inr ⟨b, off, rfl, fun j hj => by rw [World.cell?_of_block (a := ⟨b, off + j, none⟩) (hold b hbb (Ne.symm hb2))]; exact hc j hj⟩
    refine (rankC_any g1 b off (m + 1) c L x.val y.val _ c1 c2 h64 x.isLt y.isLt).mono ?_
    rintro e w' ⟨rfl, o, rfl⟩
    exact ⟨rfl, 1, #[o], by rw [alloc_eq_grow]; rfl⟩
  have h := Try.sortFunc_total enc (fun _ => rfl) (cfR L (m + 1)) (swoR h64 (m + 1)) 62 #[.pointer (some ⟨g1, 0, none⟩)] g2 0 (m + 1) d W eg hcmp hH hg2 (by rw [hds]; omega) (fun x y => totR h64 x y)
  rw [hds, hdl] at h
  refine h.mono ?_
  rintro e w' ⟨rfl, q, os, rfl⟩
  have hsz : ((List.finRange (m + 1)).mergeSort fun x y => !(ltOf (cfR L (m + 1))) y x).toArray.size = d.size := by rw [hds]; simp
  have hh : Holds enc _ g2 0 _ := SW.holds (w0 := W) ⟨q, os, rfl⟩ hg2 hH hsz
  refine ⟨rfl, ⟨by rw [rankS_length, hlen], Nat.le_refl _, by omega, .inr ⟨g2, 0, rfl, fun j hj => ?_⟩⟩, fun base w0 hb1 hb2' hb3 => below_sortWorld enc w0 W base g2 0 q _ os hb1 hb2' hb3⟩
  have hj' : j < ((List.finRange (m + 1)).mergeSort fun x y => !(ltOf (cfR L (m + 1))) y x).toArray.size := by rw [hsz, hds]; exact hj
  rw [(hh j hj').1]
  have e : (rankS L).getD j 0 = (((List.finRange (m + 1)).mergeSort fun x y => !(ltOf (cfR L (m + 1))) y x).toArray[j]!).val := by
    have hr : rankS L = ((List.finRange (m + 1)).mergeSort fun x y => !(ltOf (cfR L (m + 1))) y x).map Fin.val := by unfold rankS; rw [hlen]
    rw [hr, getElem!_pos _ j hj']
    have hj2 : j < ((List.finRange (m + 1)).mergeSort fun x y => !(ltOf (cfR L (m + 1))) y x).length := by simpa using hj'
    rw [List.getD_eq_getElem?_getD, List.getElem?_map, List.getElem?_eq_getElem hj2]
    rfl
  rw [e]
#print axioms rank_sorts

theorem heap_setCell_other' (w : World) (g : Nat) (a : Addr) (v : Value) (h : g ≠ a.block) : (w.setCell a v).heap[g]? = w.heap[g]? := Below.heap_setCell _ _ _ _ h

/-- As many places as there are, laid one by one. -/
def layTo (n j : Nat) : List Nat := List.range j ++ List.replicate (n - j) 0
theorem layTo_length {n j : Nat} (h : j ≤ n) : (layTo n j).length = n := by unfold layTo; simp; omega
theorem layTo_next {n j : Nat} (h : j < n) : (layTo n j).set j j = layTo n (j + 1) := by
  unfold layTo
  rw [List.set_append_right _ _ (by simp), List.length_range, Nat.sub_self, List.range_succ, List.append_assoc]
  rw [show n - j = (n - (j + 1)) + 1 from by omega, List.replicate_succ, List.set_cons_zero]
  rfl
theorem layTo_all (n : Nat) : layTo n n = List.range n := by unfold layTo; simp

/-- What a call answers: so many ints. -/
def Ints1 (n : Nat) (R : List Nat) (w : World) (e : Ending) (w' : World) : Prop := ∃ a1 c1, e = .returned (.slice a1 n c1) ∧ At1 N w' a1 n c1 R ∧ Below w.heap.size w w' ∧ ∀ b off, a1 = some ⟨b, off, none⟩ → w.heap.size ≤ b

set_option maxRecDepth 100000 in
set_option maxHeartbeats 1000000 in
theorem rank_any (a : Option Addr) (n c : Nat) (L : List Nat) (w : World) (hL : At1 F w a n c L) (h64 : W64 L) (hn : n ≤ 1000000000) : Calls Try.prog 25 #[.slice a n c] w (Ints1 n (rankS L) w) := by
  have hbel : Below w.heap.size w (w.alloc (.cells #[.slice a n c] 29)) := (Below.refl _ _).alloc (Nat.le_refl _) _
  have HL := Lib.hid hL
  have HL1 := Lib.hid (hL.below hbel)
  have HBL := Lib.hid hbel
  have H64 := Lib.hid h64
  have HN := Lib.hid hn
  have hnI : (n : Int) ≤ 1000000000 := by omega
  have hn0 : (0 : Int) ≤ (n : Int) := by omega
  have HS1 := Lib.hid (show (w.alloc (.cells #[.slice a n c] 29)).heap.size = w.heap.size + 1 by simp)
  have HC1 := Lib.hid (show (w.alloc (.cells #[.slice a n c] 29)).cell? ⟨w.heap.size, 0, none⟩ = some (.slice a n c) by simp)
  clear hL h64 hn hbel
  go_enter Try.func25, Try.ntmps25
  go_wp2_with (at_make; go_must (refine make1 N Try.underlying33 infoN rfl rfl _ _ rfl n rfl rfl HN.out (by decide) ?_); intro w2 hz hgz)
  have HZ := Lib.hid hz
  rw [HS1.out] at HZ
  have HB2 := Lib.hid (HBL.out.grown hgz HBL.out.size (fun k hk => by cases hk))
  have HC2 := Lib.hid (show w2.cell? ⟨w.heap.size, 0, none⟩ = some (.slice a n c) from hgz.cell HC1.out (by simp))
  have HO := Lib.hid (show Own1 N 3 w2 (w.heap.size + 1) (.slice (some ⟨w.heap.size + 1, 0, none⟩) n n) (layTo n 0) from HZ.out)
  clear hz hgz HZ
  have hc2 := HC2.out
  go_loopg [10] n (fun g v10 W => ∃ j : Nat, v10 = .int .i64 j ∧ g + j = n ∧ Below w.heap.size w W ∧ Hid (W.cell? ⟨w.heap.size, 0, none⟩ = some (.slice a n c)) ∧ Hid (Own1 N 3 W (w.heap.size + 1) (.slice (some ⟨w.heap.size + 1, 0, none⟩) n n) (layTo n j)))
  case atStart => exact ⟨0, rfl, rfl, HB2.out, HC2, HO⟩
  case round =>
    clear hc2 HC2 HO HB2
    obtain ⟨j, rfl, hg, hbw, HC, HO⟩ := hrel
    have HG := Lib.hid hg
    have hj0 : (0 : Int) ≤ (j : Int) := by omega
    have hjI : (j : Int) ≤ (n : Int) := by omega
    by_cases hj : (j : Int) < (n : Int)
    · have hjn : j < n := by omega
      have HJ := Lib.hid hjn
      have hcs : wr.cell? ⟨w.heap.size + 1, j, none⟩ = some (.int .i64 (((layTo n j).getD j 0 : Nat) : Int)) := by
        have := HO.out.at1.cell j hjn
        rwa [Nat.zero_add] at this
      obtain ⟨_, hgr, _, _, hlen, hfr⟩ := HO.out.row (by omega)
      simp only [Option.some.injEq, Addr.mk.injEq, and_true] at hgr
      have hfz : wr.frozen? ⟨w.heap.size + 1, j, none⟩ = false := by rw [hgr]; exact hfr j
      have HLN := Lib.hid hlen
      have HBS := Lib.hid hbw.size
      clear hg hgr hlen hfr
      go_wp2
      have HO2 := Lib.hid (HO.out.store HLN.out j j)
      have HC2 := Lib.hid (show (wr.setCell ⟨w.heap.size + 1, j, none⟩ (.int .i64 (j : Int))).cell? ⟨w.heap.size, 0, none⟩ = some (.slice a n c) by
        rw [World.cell?_of_block (w := wr) (a := ⟨w.heap.size, 0, none⟩) (heap_setCell_other' wr _ _ _ (by simp))]; exact HC.out)
      have HBN := Lib.hid (show Below w.heap.size w (wr.setCell ⟨w.heap.size + 1, j, none⟩ (.int .i64 (j : Int))) from hbw.setCell (by simp) _)
      rw [layTo_next HJ.out] at HO2
      go_roundg (gk - 1)
      case measure => have := HG.out; omega
      case rel => exact ⟨j + 1, by go_num, by have := HG.out; omega, HBN.out, HC2, HO2⟩
    · have hjn : j = n := by omega
      subst hjn
      have HR := Lib.hid (show Own1 N 3 wr (w.heap.size + 1) (.slice (some ⟨w.heap.size + 1, 0, none⟩) j j) (List.range j) by have h := HO.out; rwa [layTo_all] at h)
      clear hg
      rcases Nat.eq_zero_or_pos j with h0 | h0
      · subst h0
        have HLE := Lib.hid (show L = [] from List.length_eq_zero_iff.1 HL.out.1)
        go_wp2_with (go_at_call 61; go_must (refine (Try.sortFunc_none _ _ _ _).mono ?_); rintro e w3 ⟨rfl, rfl⟩)
        go_ret
        exact ⟨_, _, rfl, ⟨by rw [rankS_length, HLE.out]; rfl, Nat.le_refl _, by omega, .inl ⟨rfl, rfl⟩⟩, hbw, fun b off h => by cases h; omega⟩
      · obtain ⟨b, off, rfl⟩ := HL.out.some_ h0
        have HBW := Lib.hid hbw
        have HS := Lib.hid (rank_sorts w.heap.size (w.heap.size + 1) b off j c L wr HC.out (HL.out.below hbw) H64.out HN.out (fun i hi => ⟨by
            have := HR.out.at1.cell i hi
            rw [Nat.zero_add] at this
            rw [this]
            simp [hi], by
            obtain ⟨_, hgr, _, _, _, hfr⟩ := HR.out.row h0
            simp only [Option.some.injEq, Addr.mk.injEq, and_true] at hgr
            rw [hgr]; exact hfr i⟩) (by omega) (by
            have := World.block_lt_of_cell? _ _ (HL.out.cell 0 h0)
            simp only at this
            omega) h0)
        unfold cmpR at HS
        have HP := Lib.hid h0
        clear h0 hbw
        go_wp2_with (go_at_call 61; go_must (refine HS.out.mono ?_); rintro e w3 ⟨rfl, hat, hbf⟩)
        go_ret
        exact ⟨_, _, rfl, hat, hbf _ _ HBW.out (by omega) HBW.out.size, fun b off h => by cases h; omega⟩
#print axioms rank_any
end Go.Proofs.Ytkafeadgjpglaaa
