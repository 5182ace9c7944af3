/-
  Merged: HkLawA, HkPutB.
-/
import Derived.Test.YtfoalaoanpbmeaaDoorHkApartM
import Derived.Test.YtfoalaoanpbmeaaDoorHkLawL
import Derived.Test.YtfoalaoanpbmeaaDoorHkBuild
namespace Go.Proofs.YtfoalaoanpbmeaaDoor
open Go.RowKit Go.Lib

theorem HkH.at_ {W : World} {base : Nat} {a : Option Addr} {c : Nat} {V : List (HkV × Value)} (h : HkH W base a c V) {k : Nat} (hk : k < V.length) : ∃ g n a2 c2, a = some ⟨g, 0, none⟩ ∧ W.cell? ⟨g, k * 3, none⟩ = some (.int .i64 ((gd V k).1.f : Nat)) ∧ W.cell? ⟨g, k * 3 + 1, none⟩ = some (.int .i64 ((gd V k).1.t : Nat)) ∧ W.cell? ⟨g, k * 3 + 2, none⟩ = some (.slice a2 n c2) ∧ AtG lnK W a2 n c2 (gd V k).1.ls :=
  (HkB.of (base := 0) (v := .slice none 0 0) (acc := []) h OwnG.nil (Nat.zero_le _) (fun k hk => by cases hk)).at_ hk
theorem cn_le : ∀ (l : List UInt8) (s : Cn), (l.foldl cnStep s).at_ ≤ s.at_ + l.length ∧ (l.foldl cnStep s).first ≤ s.first + l.length ∧ (l.foldl cnStep s).last ≤ s.last + l.length ∧ (l.foldl cnStep s).n ≤ s.n + l.length
  | [], _ => ⟨Nat.le_refl _, Nat.le_refl _, Nat.le_refl _, Nat.le_refl _⟩
  | c :: l, s => by
    obtain ⟨h1, h2, h3, h4⟩ := cn_le l (cnStep s c)
    have e1 : (cnStep s c).at_ ≤ s.at_ + 1 := by unfold cnStep; simp only; split <;> omega
    have e2 : (cnStep s c).first ≤ s.first + 1 := by unfold cnStep; simp only; split <;> (try split) <;> omega
    have e3 : (cnStep s c).last ≤ s.last + 1 := by unfold cnStep; simp only; split <;> omega
    have e4 : (cnStep s c).n ≤ s.n + 1 := by unfold cnStep; simp only; split <;> omega
    rw [List.length_cons]
    exact ⟨by show (l.foldl cnStep (cnStep s c)).at_ ≤ _; omega, by show (l.foldl cnStep (cnStep s c)).first ≤ _; omega, by show (l.foldl cnStep (cnStep s c)).last ≤ _; omega, by show (l.foldl cnStep (cnStep s c)).n ≤ _; omega⟩
theorem byte_is {x : Ln} (h : 0 < (strB x).size) (z : UInt8) (Z : Int) (hZ : (z.toNat : Int) = Z) (q : Bool) (hq : (headB x == z) = q) : (((((strB x)[0]'h).toNat : Int) == Z) = q) ∧ (((((strB x)[0]'h).toNat : Int) != Z) = !q) := by
  have h1 : (strB x)[0]'h = headB x := byte_at h
  have h2 : ((((strB x)[0]'h).toNat : Int) == Z) = q := by
    rw [h1, ← hZ, ← hq, Bool.eq_iff_iff, beq_iff_eq, beq_iff_eq]
    constructor
    · intro e; exact UInt8.toNat_inj.1 (by omega)
    · intro e; rw [e]
  exact ⟨h2, by simp [bne, h2]⟩
set_option maxRecDepth 100000 in
set_option maxHeartbeats 8000000 in
theorem hunkApart_any (s t : ByteArray) (w : World) (hT : HTabs w) :
    Calls Tryd.prog 7 #[.string s, .string t] w fun e w' => e = .returned (.bool true) ∧ Below w.heap.size w w' := by
  have HT := Lib.hid hT
  clear hT
  by_cases hbig : (1000 : Int) < (s.size : Int)
  · have d1 : decide ((1000 : Int) < (s.size : Int)) = true := decide_eq_true hbig
    have d1n : decide (1000 < s.size) = true := decide_eq_true (by omega)
    clear hbig
    go_enter Tryd.func7, Tryd.ntmps7
    go_wp2
    go_ret
    exact ⟨rfl, Below.refl _ _⟩
  · have d1 : decide ((1000 : Int) < (s.size : Int)) = false := decide_eq_false hbig
    have d1n : decide (1000 < s.size) = false := decide_eq_false (by omega)
    by_cases hbig2 : (1000 : Int) < (t.size : Int)
    · have d2 : decide ((1000 : Int) < (t.size : Int)) = true := decide_eq_true hbig2
      have d2n : decide (1000 < t.size) = true := decide_eq_true (by omega)
      clear hbig hbig2
      go_enter Tryd.func7, Tryd.ntmps7
      go_wp2
      go_ret
      exact ⟨rfl, Below.refl _ _⟩
    · have d2 : decide ((1000 : Int) < (t.size : Int)) = false := decide_eq_false hbig2
      have d2n : decide (1000 < t.size) = false := decide_eq_false (by omega)
      have HTOP := Lib.hid (top_any s t w (by omega) (by omega) HT.out.tabs)
      obtain ⟨⟨Z, r⟩, hz⟩ : ∃ z, topF s.data.toList t.data.toList = z := ⟨_, rfl⟩
      have HSM : Hid (Gd 8192 4000000000 Z) := Lib.hid (by have h1 := top_small s.data.toList t.data.toList 4000000000 (by rw [← Lib.size_eq]; omega) (by rw [← Lib.size_eq]; omega); rw [hz] at h1; exact h1)
      have HOK : Hid (okH (-1) (Z.drop 0)) := Lib.hid (by have h1 := top_apart s.data.toList t.data.toList; rw [hz] at h1; exact h1)
      rw [hz] at HTOP
      clear hbig hbig2 hz
      go_enter Tryd.func7, Tryd.ntmps7
      go_wp2_with (go_at_call 8; (with_reducible refine HTOP.out.mono ?_); rintro e w1 ⟨a5, c5, base, V, rfl, hv, hh, _, hb⟩; have HV : Hid (V.map (·.1) = Z) := Lib.hid hv; have HH := Lib.hid hh; have HB := Lib.hid hb; obtain ⟨N, hN⟩ : ∃ N, V.length = N := ⟨_, rfl⟩; rw [hN]; have HN := Lib.hid hN; clear hv hh hb hN)
      clear d1 d1n d2 d2n
      go_loopg [7, 8] N (fun gk v7 v8 W => ∃ (i : Nat) (E : Int), v8 = .int .i64 (i : Nat) ∧ v7 = .int .i64 E ∧ Hid (okH E (Z.drop i)) ∧ Hid (gk + i = N) ∧ Hid (Below w1.heap.size w1 W))
      case atStart => exact ⟨0, -1, rfl, rfl, HOK, Lib.hid rfl, Lib.hid (Below.refl _ _)⟩
      case round =>
        clear HOK
        obtain ⟨i, E, rfl, rfl, HOK, HI, HBW⟩ := hrel
        by_cases hi : (i : Int) < (N : Int)
        · have hiV : i < V.length := by have := HN.out; omega
          obtain ⟨g, m, a9, c9, rfl, g0, g1, g2, hA9⟩ := HH.out.at_ hiV
          have hiZ : i < Z.length := by rw [← HV.out, List.length_map]; exact hiV
          have hz1 : (gd V i).1 = Z.getD i default := by
            rw [← HV.out]; unfold gd; simp [List.getD_eq_getElem?_getD, hiV]
          obtain ⟨⟨f, t2, ls⟩, hy⟩ : ∃ y, Z.getD i default = y := ⟨_, rfl⟩
          have hsm := HSM.out.2 _ (getD_mem (d := default) hiZ)
          have hdr : Z.drop i = ⟨f, t2, ls⟩ :: Z.drop (i + 1) := by rw [List.drop_eq_getElem_cons hiZ, ← hy, List.getD_eq_getElem?_getD, List.getElem?_eq_getElem hiZ]; rfl
          have hok := HOK.out
          rw [hdr] at hok
          obtain ⟨o1, o2, o3⟩ := hok
          rw [hz1, hy] at g0 hA9
          rw [hy] at hsm
          have HSY : Hid (f ≤ 8192 ∧ ls.length ≤ 8192) := Lib.hid ⟨hsm.1, hsm.2.2.1⟩
          have HA9 : Hid (AtG lnK w1 a9 m c9 ls) := Lib.hid hA9
          have HML : Hid (ls.length = m) := Lib.hid hA9.1
          have HGY : Hid (GoodY ⟨f, t2, ls⟩) := Lib.hid o2
          have HO3 : Hid (okH (endY ⟨f, t2, ls⟩ : Nat) (Z.drop (i + 1))) := Lib.hid o3
          have HKC : Hid (∀ W, Below w1.heap.size w1 W → W.cell? ⟨g, i * 3, none⟩ = some (.int .i64 (f : Nat)) ∧ W.cell? ⟨g, i * 3 + 2, none⟩ = some (.slice a9 m c9)) := Lib.hid (fun W hW => ⟨(hW.cell (World.block_lt_of_cell? _ _ g0)).trans g0, (hW.cell (World.block_lt_of_cell? _ _ g2)).trans g2⟩)
          have hm0 : 0 < m := by have h1 := List.length_pos_iff.2 o2.1; have h2 : ls.length = m := hA9.1; simp only at h1; omega
          have HIN : Hid (i < N) := Lib.hid (by omega)
          have hi0 : (0 : Int) ≤ (i : Int) := by omega
          have hle : decide ((f : Int) ≤ E) = false := decide_eq_false (by have h1 : E < (f : Int) := o1; omega)
          have hne : ((m : Int) == 0) = false := by rw [beq_eq_false_iff_ne]; omega
          have hne2 : ¬ m = 0 := by omega
          have W1 : IntKind.i64.wrap ((i : Int) + 1) = (i : Int) + 1 := IntWalk.i64_in _ (by have h1 := HSM.out.1; have h2 : Z.length ≤ 8192 := h1; omega)
          clear hiV hz1 hy hsm hdr o1 o2 o3 hA9 g0 g1 g2 hiZ hm0
          obtain ⟨m0, m2⟩ := HKC.out wr HBW.out
          go_wp2
          clear m0 m2
          go_loopg [9, 10, 11, 12, 13] m (fun gk v9 v10 v11 v12 v13 W => ∃ (k at_ fi la nn : Nat), v13 = .int .i64 (k : Nat) ∧ v9 = .int .i64 (at_ : Nat) ∧ v10 = .int .i64 (fi : Nat) ∧ v11 = .int .i64 (la : Nat) ∧ v12 = .int .i64 (nn : Nat) ∧ Hid (gk + k = m) ∧ Hid (cnF f ((ls.map headB).take k) = ⟨at_, fi, la, nn⟩) ∧ Hid (Below w1.heap.size w1 W))
          case atStart => exact ⟨0, f, 0, 0, 0, rfl, rfl, rfl, rfl, rfl, Lib.hid rfl, Lib.hid rfl, HBW⟩
          case round =>
            obtain ⟨k, at_, fi, la, nn, rfl, rfl, rfl, rfl, rfl, HK, HS, HBK⟩ := hrel
            obtain ⟨m0, m2⟩ := HKC.out wr HBK.out
            by_cases hk : (k : Int) < (m : Int)
            · have HKM : Hid (k < m) := Lib.hid (by omega)
              obtain ⟨b, off, rfl⟩ := HA9.out.some_ (by omega)
              obtain ⟨x, hx⟩ : ∃ x, ls.getD k [] = x := ⟨_, rfl⟩
              have hcell : wr.cell? ⟨b, off + k, none⟩ = some (.string (strB x)) := by
                have h1 := ln_cell (HA9.out.below HBK.out) k HKM.out
                rw [hx] at h1
                exact h1
              have hkl : k < ls.length := by have := HML.out; omega
              have hxm : x ∈ ls := by rw [← hx]; exact getD_mem hkl
              have hxn : x ≠ [] := HGY.out.2.1 x hxm
              have hsz : 0 < (strB x).size := by rw [strB_size]; exact List.length_pos_iff.2 hxn
              have hsz0 : (((strB x).size : Int) == 0) = false := by rw [beq_eq_false_iff_ne]; omega
              have hsz1 : ¬ (strB x).size = 0 := by omega
              have hsz2 : (0 : Int) < ((strB x).size : Int) := by omega
              have hbl := cn_le ((ls.map headB).take k) ⟨f, 0, 0, 0⟩
              have hbl2 : at_ ≤ f + k ∧ fi ≤ k ∧ la ≤ k ∧ nn ≤ k := by
                have e := HS.out
                unfold cnF at e
                rw [e] at hbl
                rw [List.length_take, List.length_map] at hbl
                simp only at hbl
                omega
              have HSN : Hid (cnF f ((ls.map headB).take (k + 1)) = cnStep (cnF f ((ls.map headB).take k)) (headB x)) := Lib.hid (by rw [take_snoc (ls.map headB) k 0 (by rw [List.length_map]; exact hkl), cn_snoc]; congr 1; rw [List.getD_eq_getElem?_getD, List.getElem?_map, List.getElem?_eq_getElem hkl, ← hx, List.getD_eq_getElem?_getD, List.getElem?_eq_getElem hkl]; rfl)
              have hk0 : (0 : Int) ≤ (k : Int) := by omega
              have hsy := HSY.out
              have W2 : IntKind.i64.wrap ((k : Int) + 1) = (k : Int) + 1 := IntWalk.i64_in _ (by omega)
              have W3 : IntKind.i64.wrap ((at_ : Int) + 1) = (at_ : Int) + 1 := IntWalk.i64_in _ (by omega)
              have W4 : IntKind.i64.wrap ((fi : Int) + 1) = (fi : Int) + 1 := IntWalk.i64_in _ (by omega)
              have W5 : IntKind.i64.wrap ((la : Int) + 1) = (la : Int) + 1 := IntWalk.i64_in _ (by omega)
              have W6 : IntKind.i64.wrap ((nn : Int) + 1) = (nn : Int) + 1 := IntWalk.i64_in _ (by omega)
              clear hx hkl hxm hxn hbl hbl2 hsy
              by_cases h43 : headB x = 43
              · have HHD := Lib.hid h43
                obtain ⟨z1, z2⟩ := byte_is hsz 43 43 rfl true (by rw [h43]; rfl)
                obtain ⟨z3, z4⟩ := byte_is hsz 32 32 rfl false (by rw [h43]; rfl)
                clear h43
                go_wp2
                go_roundg (gk - 1)
                case measure => have h1 := HK.out; have h2 := HKM.out; omega
                case rel => exact ⟨k + 1, _, _, _, _, by go_num, rfl, rfl, rfl, rfl, Lib.hid (by have h1 := HK.out; have h2 := HKM.out; omega), Lib.hid (by rw [HSN.out, HS.out, HHD.out]; unfold cnStep; rfl), HBK⟩
              · obtain ⟨z1, z2⟩ := byte_is hsz 43 43 rfl false (by rw [beq_eq_false_iff_ne]; exact h43)
                by_cases h32 : headB x = 32
                · have HHD := Lib.hid h32
                  obtain ⟨z3, z4⟩ := byte_is hsz 32 32 rfl true (by rw [h32]; rfl)
                  clear h43 h32
                  by_cases hn0 : nn = 0
                  · have hn1 : ((nn : Int) == 0) = true := by rw [hn0]; rfl
                    have HN0 := Lib.hid hn0
                    clear hn0
                    go_wp2
                    go_roundg (gk - 1)
                    case measure => have h1 := HK.out; have h2 := HKM.out; omega
                    case rel => exact ⟨k + 1, _, _, _, _, by go_num, rfl, rfl, rfl, rfl, Lib.hid (by have h1 := HK.out; have h2 := HKM.out; omega), Lib.hid (by rw [HSN.out, HS.out, HHD.out]; unfold cnStep; simp [HN0.out]), HBK⟩
                  · have hn1 : ((nn : Int) == 0) = false := by rw [beq_eq_false_iff_ne]; omega
                    have HN0 := Lib.hid hn0
                    clear hn0
                    go_wp2
                    go_roundg (gk - 1)
                    case measure => have h1 := HK.out; have h2 := HKM.out; omega
                    case rel => exact ⟨k + 1, _, _, _, _, by go_num, rfl, rfl, rfl, rfl, Lib.hid (by have h1 := HK.out; have h2 := HKM.out; omega), Lib.hid (by rw [HSN.out, HS.out, HHD.out]; unfold cnStep; simp [HN0.out]), HBK⟩
                · obtain ⟨z3, z4⟩ := byte_is hsz 32 32 rfl false (by rw [beq_eq_false_iff_ne]; exact h32)
                  obtain ⟨zc, hzc⟩ : ∃ z, headB x = z := ⟨_, rfl⟩
                  have HHD := Lib.hid hzc
                  rw [hzc] at h43 h32
                  have HH4 := Lib.hid h43
                  have HH3 := Lib.hid h32
                  clear h43 h32 hzc
                  go_wp2
                  go_roundg (gk - 1)
                  case measure => have h1 := HK.out; have h2 := HKM.out; omega
                  case rel => exact ⟨k + 1, _, _, _, _, by go_num, rfl, rfl, rfl, rfl, Lib.hid (by have h1 := HK.out; have h2 := HKM.out; omega), Lib.hid (by rw [HSN.out, HS.out, HHD.out]; unfold cnStep; simp [HH4.out, HH3.out]), HBK⟩
            · have hkm : k = m := by have := HK.out; omega
              have hst := HS.out
              rw [List.take_of_length_le (by rw [List.length_map, HML.out, hkm]; exact Nat.le_refl _)] at hst
              have HEN : Hid (endY ⟨f, t2, ls⟩ = at_) := Lib.hid (by unfold endY; simp only [hst])
              obtain ⟨_, _, e3, e4, e5⟩ := HGY.out
              simp only [hst] at e3 e4 e5
              have x1 : decide ((3 : Int) < (fi : Int)) = false := decide_eq_false (by omega)
              have x2 : decide ((3 : Int) < (la : Int)) = false := decide_eq_false (by omega)
              have x1n : decide (3 < fi) = false := decide_eq_false (by omega)
              have x2n : decide (3 < la) = false := decide_eq_false (by omega)
              have x3 : ((nn : Int) == 0) = false := by rw [beq_eq_false_iff_ne]; omega
              have x4 : ¬ nn = 0 := e5
              clear hst e3 e4 e5 hkm
              go_wp2
              go_roundg (N - (i + 1))
              case measure => have h1 := HI.out; have h2 := HIN.out; omega
              case rel => exact ⟨i + 1, _, by go_num, rfl, Lib.hid (by have h1 := HO3.out; rw [HEN.out] at h1; exact h1), Lib.hid (by have h1 := HI.out; have h2 := HIN.out; omega), HBK⟩
        · have hb := HB.out.trans (HBW.out.mono HB.out.size)
          have HBB := Lib.hid hb
          clear hb
          go_wp2_with (go_at_call 15; (with_reducible refine (awake_any wr (HT.out.below HBB.out)).mono ?_); rintro e w5 ⟨rfl, hb⟩; have HB5 := Lib.hid (HBB.out.trans (hb.mono HBB.out.size)); clear hb)
          go_ret
          exact ⟨rfl, HB5.out⟩
#print axioms hunkApart_any
end Go.Proofs.YtfoalaoanpbmeaaDoor

namespace Go.Proofs.YtfoalaoanpbmeaaDoor
open Go.RowKit Go.Lib

def LnsAt (L : List Ln) (w : World) (e : Ending) (w' : World) : Prop := ∃ g n c, e = .returned (.slice (some ⟨g, 0, none⟩) n c) ∧ AtG lnK w' (some ⟨g, 0, none⟩) n c L ∧ Below w.heap.size w w'
set_option maxRecDepth 100000 in
set_option maxHeartbeats 1000000 in
theorem split_some (s : ByteArray) (w : World) (hs : s.size ≤ 4000000000) : Calls Tryd.prog 13 #[.string s] w (LnsAt (linesF s.data.toList) w) := by
  obtain ⟨L, hL⟩ : ∃ L, splitA s.data.toList = L := ⟨_, rfl⟩
  have hne : L ≠ [] := hL ▸ splitA_ne _
  obtain ⟨N, hn⟩ : ∃ N, L.length = N := ⟨_, rfl⟩
  obtain ⟨n, hnN⟩ : ∃ n, N = n + 1 := ⟨N - 1, by have := List.length_pos_iff.2 hne; omega⟩
  have hnb : n ≤ 4000000000 := by have h1 := splitA_count s.data.toList; have h2 := count_le_len s.data.toList; rw [← Lib.size_eq] at h2; rw [hL] at h1; omega
  have hch := chop_split s.data.toList
  rw [hL] at hch
  have HG := Lib.hid (splitAfter_any s w hs)
  rw [hL, hn] at HG
  obtain ⟨w1, hw1⟩ : ∃ W, w.alloc (.cells (L.map fun x => Value.string (strB x)).toArray 9) = W := ⟨_, rfl⟩
  rw [hw1] at HG
  have HB : Hid (Below w.heap.size w w1) := Lib.hid (hw1 ▸ (Below.refl _ _).alloc (Nat.le_refl _) _)
  have hcell : ∀ j, j < N → w1.cell? ⟨w.heap.size, j, none⟩ = some (.string (strB (L.getD j []))) := fun j hj => by
    rw [← hw1, cell_of_row _ _ _ _ _ _ (heap_alloc_new w _)]
    simp [hn, hj]
  obtain ⟨x, hx⟩ : ∃ x, L.getD n [] = x := ⟨_, rfl⟩
  have hlast := hcell n (by omega)
  rw [hx] at hlast
  have hgl : L.getLast? = some x := by
    rw [List.getLast?_eq_getElem?, hn, hnN, Nat.add_sub_cancel, ← hx, List.getD_eq_getElem?_getD, List.getElem?_eq_getElem (by omega)]
    rfl
  have HC := Lib.hid hcell
  have W1 : IntKind.i64.wrap ((N : Int) - 1) = (n : Int) := by rw [IntWalk.i64_in _ (by omega)]; omega
  have hn0 : (0 : Int) ≤ (n : Int) := by omega
  have hn1 : (n : Int) < (N : Int) := by omega
  have hn2 : n ≤ N := by omega
  have hnc : ¬ N = n := by omega
  have hnc' : ¬ n = N := by omega
  have HNN := Lib.hid hnN
  have HN := Lib.hid hn
  have HNB := Lib.hid hnb
  by_cases h0 : x = []
  · have HE : Hid (linesF s.data.toList = L.dropLast) := Lib.hid (by rw [← hch]; unfold chopF; rw [hgl, h0, if_pos rfl])
    have hq : ((strB x).toList == []) = true := by rw [h0, Lib.toList_data]; rfl
    have hc0 : ¬ N = 0 := by omega
    clear hL hne hn hnN hnb hch hw1 hcell hx hgl h0 hs
    go_enter Tryd.func13, Tryd.ntmps13
    go_wp2_with (go_at_call 24; (with_reducible refine HG.out.mono ?_); rintro e w2 ⟨rfl, rfl⟩)
    go_ret
    refine ⟨_, _, _, rfl, ?_, HB.out⟩
    rw [HE.out]
    refine ln_mk (by rw [List.length_dropLast, HN.out, HNN.out]; omega) hn2 (by have := HNB.out; have := HNN.out; omega) (fun j hj => ?_)
    rw [Nat.zero_add, HC.out j (by omega), List.dropLast_eq_take, HN.out, HNN.out, Nat.add_sub_cancel, List.getD_eq_getElem?_getD, List.getD_eq_getElem?_getD, List.getElem?_take_of_lt hj]
  · have HE : Hid (linesF s.data.toList = L) := Lib.hid (by rw [← hch]; unfold chopF; rw [hgl, if_neg (by simpa using h0)])
    have hq : ((strB x).toList == []) = false := by rw [Lib.toList_data]; simp [strB, h0]
    clear hL hne hn hnN hnb hch hw1 hcell hx hgl h0 hs
    go_enter Tryd.func13, Tryd.ntmps13
    go_wp2_with (go_at_call 24; (with_reducible refine HG.out.mono ?_); rintro e w2 ⟨rfl, rfl⟩)
    go_ret
    refine ⟨_, _, _, rfl, ?_, HB.out⟩
    rw [HE.out]
    exact ln_mk HN.out (Nat.le_refl _) (by have := HNB.out; have := HNN.out; omega) (fun j hj => by rw [Nat.zero_add]; exact HC.out j hj)
/-- Lines from one place on. -/
theorem atg_drop {w : World} {g n c : Nat} {L : List Ln} (h : AtG lnK w (some ⟨g, 0, none⟩) n c L) (k m : Nat) (hk : k ≤ m) (hm : m ≤ n) : AtG lnK w (some ⟨g, k, none⟩) (m - k) (c - k) ((L.take m).drop k) := by
  have hl := h.1
  have hc := h.2.1
  refine ln_mk (by rw [List.length_drop, List.length_take]; omega) (by omega) (by have := h.2.2.1; omega) (fun j hj => ?_)
  have h1 := ln_cell h (k + j) (by omega)
  rw [Nat.zero_add] at h1
  rw [h1, List.getD_eq_getElem?_getD, List.getD_eq_getElem?_getD, List.getElem?_drop, List.getElem?_take_of_lt (by omega)]
theorem flat_le : ∀ (L : List Ln) (B : Nat), (∀ x ∈ L, x.length ≤ B) → L.flatten.length ≤ L.length * B
  | [], _, _ => Nat.zero_le _
  | x :: L, B, h => by
    have h1 := flat_le L B (fun y hy => h y (List.mem_cons_of_mem _ hy))
    have h2 := h x (List.mem_cons_self ..)
    rw [List.flatten_cons, List.length_append, List.length_cons, Nat.succ_mul]; omega
/-- What a call of Apply's closure leaves. -/
def PutK (b : Nat) (l : List UInt8) (w : World) (e : Ending) (w' : World) : Prop := e = .returned (.tuple #[]) ∧ Bld b l w' ∧ Below b w w' ∧ Lib.OthersKept 5 (some b) w w' ∧ b < w'.heap.size
set_option maxRecDepth 100000 in
set_option maxHeartbeats 1000000 in
theorem putB_any {b : Nat} {l : List UInt8} {w : World} (hB : Bld b l w) (hb : b < w.heap.size) (a : Option Addr) (n c : Nat) (L : List Ln) (hA : AtG lnK w a n c L) (hS : ∀ w' i, 0 < i → Below b w w' → Lib.OthersKept 5 (some b) w w' → ∀ g off, a = some ⟨g, off, none⟩ → i < n → w'.cell? ⟨g, off + i, none⟩ = some (.string (strB (L.getD i [])))) (hn : n ≤ 100000) (hL : ∀ x ∈ L, x.length ≤ 100000) (hl : l.length ≤ 10000000000) :
    Calls Tryd.prog 34 #[.slice a n c, .pointer (some ⟨b, 0, none⟩)] w (PutK b (l ++ L.flatten) w) := by
  have HB := Lib.hid hB
  have HA := Lib.hid hA
  have HS := Lib.hid hS
  have HN : Hid (n ≤ 100000 ∧ L.length = n) := Lib.hid ⟨hn, hA.1⟩
  have HL := Lib.hid hL
  have HLL := Lib.hid hl
  have HBW := Lib.hid hb
  clear hB hA hS hn hL hl hb
  go_enter Tryd.func34, Tryd.ntmps34
  go_wp2
  go_loopg [7] n (fun gk v7 W => ∃ i : Nat, v7 = .int .i64 (i : Nat) ∧ Hid (gk + i = n) ∧ Hid (Bld b (l ++ (L.take i).flatten) W) ∧ Hid (Below b w W) ∧ Hid (Lib.OthersKept 5 (some b) w W) ∧ Hid (b < W.heap.size) ∧ Hid (i = 0 → W = w))
  case atStart => exact ⟨0, rfl, Lib.hid rfl, Lib.hid (by rw [List.take_zero, List.flatten_nil, List.append_nil]; exact HB.out), Lib.hid (Below.refl _ _), Lib.hid (Lib.OthersKept.refl _ _ _), HBW, Lib.hid (fun _ => rfl)⟩
  case round =>
    obtain ⟨i, rfl, HI, HBI, HLO, HK, HBS, H0⟩ := hrel
    by_cases hi : (i : Int) < (n : Int)
    · obtain ⟨g, off, rfl⟩ := HA.out.some_ (by omega)
      obtain ⟨x, hx⟩ : ∃ x, L.getD i [] = x := ⟨_, rfl⟩
      have hil : i < L.length := by have := HN.out; omega
      have hcell : wr.cell? ⟨g, off + i, none⟩ = some (.string (strB x)) := by
        rcases Nat.eq_zero_or_pos i with h0 | h0
        · subst h0
          rw [H0.out rfl, ← hx]
          exact ln_cell HA.out 0 (by omega)
        · rw [HS.out wr i h0 HLO.out HK.out g off rfl (by omega), hx]
      have HXL : Hid (x.length ≤ 100000) := Lib.hid (HL.out x (by rw [← hx]; exact getD_mem hil))
      have HNX : Hid (l ++ (L.take (i + 1)).flatten = (l ++ (L.take i).flatten) ++ x) := Lib.hid (by rw [take_snoc L i [] hil, hx, List.flatten_append, List.append_assoc]; simp)
      have HLN : Hid ((l ++ (L.take i).flatten).length + x.length ≤ 100000000000) := Lib.hid (by
        have h1 := flat_le (L.take i) 100000 (fun y hy => HL.out y (List.mem_of_mem_take hy))
        have h2 : (L.take i).length * 100000 ≤ 100000 * 100000 := Nat.mul_le_mul_right _ (by rw [List.length_take]; have := HN.out; omega)
        have h3 := HXL.out
        have h4 := HLL.out
        rw [List.length_append]; omega)
      have HIN : Hid (i < n) := Lib.hid (by omega)
      have hi0 : (0 : Int) ≤ (i : Int) := by omega
      have W1 : IntKind.i64.wrap ((i : Int) + 1) = (i : Int) + 1 := IntWalk.i64_in _ (by have := HN.out; omega)
      clear hx hil
      go_wp2_with (go_at_call 35; (with_reducible refine (write_k HBI.out x HLN.out (Nat.le_of_lt HBS.out)).mono ?_); rintro e w2 ⟨rfl, hb2, hlo, hk2⟩; have HB2 := Lib.hid hb2; have HL2 := Lib.hid (HLO.out.trans hlo); have HK2 := Lib.hid (HK.out.trans hk2); have HS2 := Lib.hid (Nat.lt_of_lt_of_le HBS.out hlo.size); clear hb2 hlo hk2)
      go_roundg (gk - 1)
      case measure => have h1 := HI.out; have h2 := HIN.out; omega
      case rel => exact ⟨i + 1, by go_num, Lib.hid (by have h1 := HI.out; have h2 := HIN.out; omega), Lib.hid (by rw [HNX.out]; exact HB2.out), HL2, HK2, HS2, Lib.hid (fun h => absurd h (Nat.succ_ne_zero i))⟩
    · have hin : i = n := by have := HI.out; omega
      have hb := HBI.out
      rw [List.take_of_length_le (by rw [HN.out.2, hin]; exact Nat.le_refl _)] at hb
      have HE := Lib.hid hb
      clear hb hin
      go_wp2
      refine bodyPost_end (results_none rfl _ _ _) rfl ?_
      exact ⟨rfl, HE.out, HLO.out, HK.out, HBS.out⟩
end Go.Proofs.YtfoalaoanpbmeaaDoor
