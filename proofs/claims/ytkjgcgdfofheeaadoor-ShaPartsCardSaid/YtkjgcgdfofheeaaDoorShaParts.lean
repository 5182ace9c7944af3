/-
  The walk of ShaParts.
-/
import Derived.Test.YtkjgcgdfofheeaaDoorShaKept
import Derived.Test.YtkjgcgdfofheeaaDoorShaRef
import Derived.Deep.LoopGhost
namespace Go.Proofs.YtkjgcgdfofheeaaDoor
open Go.RowKit

theorem take_next {α : Type} (ps : List α) (d : α) (i : Nat) (h : i < ps.length) : ps.take (i + 1) = ps.take i ++ [ps.getD i d] := by
  rw [List.take_add_one]
  simp [h]

set_option maxRecDepth 100000 in
set_option maxHeartbeats 2000000 in
theorem shaParts_any (a : Option Addr) (n c : Nat) (ps : List (List UInt8)) (w : World) (hp : Parts w a n ps) (ht : Tables w) :
    Calls Tryd.prog 4 #[.slice a n c] w fun e w' => e = .returned (.bool true) ∧ Below w.heap.size w w' := by
  have hT := Lib.hid ht
  have hgs := Lib.hid ht.round.lt
  have hn63 := hp.2.1
  clear ht
  by_cases hn : (n : Int) ≤ 40
  · have hd : decide (40 < (n : Int)) = false := by simp; omega
    have HPL := Lib.hid hp.1
    go_enter Tryd.func4, Tryd.ntmps4
    go_wp2_with (go_at_call 12; go_must (refine (new_any _ hT.out).mono ?_); rintro e w2 ⟨rfl, hh2, hbel2⟩)
    have hK2 := Kept.start hh2
    clear hh2 hd
    go_loopg [4, 5, 6] n (fun gh v4 v5 v6 W => ∃ i : Nat, gh + i = n ∧ v6 = .int .i64 i ∧ Kept w.heap.size (ps.take i).flatten (ps.take i).flatten (ps.take i) v4 v5 W ∧ Below w.heap.size w W ∧ (ps.take i).flatten.length ≤ 2000 * i)
    case atStart => exact ⟨0, rfl, rfl, hK2, hbel2, by simp⟩
    case round =>
      obtain ⟨i, hg, rfl, hK, hbel, hlen⟩ := hrel
      have HG := Lib.hid hg
      have hin : i ≤ n := by omega
      clear hg hK2 hbel2
      by_cases hi : i < n
      · obtain ⟨b, off, rfl, hcells⟩ : ∃ b off, a = some ⟨b, off, none⟩ ∧ ∀ j, j < n → ∃ a' n' c', w.cell? ⟨b, off + j, none⟩ = some (.slice a' n' c') ∧ Bytes w a' n' c' (ps.getD j []) := by
          rcases hp.2.2 with h | h
          · omega
          · exact h
        obtain ⟨a', n', c', hcl0, hby0⟩ := hcells i hi
        have HCL := Lib.hid hcl0
        have hcl : wr.cell? ⟨b, off + i, none⟩ = some (.slice a' n' c') := (hbel.cell (World.block_lt_of_cell? _ _ hcl0)).trans hcl0
        have hilt : i < ps.length := by rw [HPL.out]; exact hi
        have HFL := Lib.hid (flat_take ps i hilt)
        have HTK := Lib.hid (take_next ps [] i hilt)
        obtain ⟨p, hp0⟩ : ∃ p, p = ps.getD i [] := ⟨_, rfl⟩
        rw [← hp0] at hby0
        have HPP := Lib.hid hp0
        have HBY := Lib.hid hby0
        have hpn := hby0.1
        have hpn63 := hby0.2.1
        have hpc63 := hby0.2.2.1
        have HPN := Lib.hid hpn
        clear hcells hcl0 hby0 hp hp0 hilt hpn
        by_cases hle : (n' : Int) ≤ 2000
        · have hd2 : decide (2000 < (n' : Int)) = false := by simp; omega
          obtain ⟨fl, hfl⟩ : ∃ fl, fl = (ps.take i).flatten := ⟨_, rfl⟩
          rw [← hfl] at hK hlen
          have HF := Lib.hid hfl
          obtain ⟨q, hq⟩ : ∃ q, q = fl ++ p := ⟨_, rfl⟩
          have HQ := Lib.hid hq
          have hll := Lib.hid (show q.length ≤ 100000 by rw [hq, List.length_append]; have := HPN.out; omega)
          have hll2 := Lib.hid (show fl.length + p.length ≤ 100000 by have := HPN.out; omega)
          have hpl := Lib.hid (show p.length ≤ 2000 by have := HPN.out; omega)
          have hcsl := Lib.hid (show (ps.take i).length ≤ 1000 by simp; omega)
          clear hfl hq
          go_wp2_with (first
            | (go_at_call 9; go_must (refine (copy_any a' n' c' p wr (HBY.out.below hbel) (by have := hpl.out; omega)).mono ?_); rintro e w1 ⟨a1, n1, c1, rfl, hown1, hbel1⟩; have hB1 := hbel.trans (hbel1.mono hbel.size); have hcl1 := (hB1.cell (World.block_lt_of_cell? _ _ HCL.out)).trans HCL.out)
            | ((with_reducible show wpList _ _ _ (⟨some 32, _, _, _, _, _⟩ :: _) _ _); go_must (refine app_part rfl (.tmp 29) (.tmp 31) rfl ((hK.below hbel1).below ((Below.refl _ _).alloc (Nat.le_refl _) _)) rfl w1.heap.size _ rfl (by simp) ((hown1.alloc _).mono (by have := hK.size; omega)) (apart_new hown1 (fun k hk => (hK.allLt k hk).2)) (apart_new hown1 (fun k hk => (hK.copLt k hk).2)) hcsl.out ?_); intro vC w3 hK3 hown3 hgr3; have hB3 := (hB1.alloc hB1.size _).grown hgr3 (by have := hB1.size; simp; omega) (fun k hk => by have := (hK.copLt k hk).1; omega))
            | (go_at_call 13; go_must (refine (write_each w.heap.size fl a1 n1 c1 p w3 hK3.hash (hT.out.below hB3) (by have := hgs.out; omega) hown3.isBytes (fun _ => own_notIn hown3 (by omega)) (by have := hll2.out; omega)).mono ?_); rintro e w4 ⟨rfl, hh4, hgr4⟩; rw [← HQ.out] at hh4; have hK4 := hK3.write hh4 hgr4; have hB4 := hB3.grown hgr4 hB3.size (fun k hk => by simp at hk; omega); have hcl4 := (hB4.cell (World.block_lt_of_cell? _ _ HCL.out)).trans HCL.out)
            | ((with_reducible show wpList _ _ _ (⟨some 41, _, _, _, _, _⟩ :: _) _ _); go_must (refine app_bytes_told rfl (.tmp 36) (.tmp 40) rfl (w.heap.size + 1) _ _ rfl hK4.all a' n' c' p rfl (HBY.out.below hB4) (by have := hll2.out; have := HPN.out; omega) hK4.size ?_); intro vA w5 hown5 hgr5 htd5; rw [← HQ.out] at hown5; have hK5 := hK4.app hown5 hgr5 htd5; have hB5 := hB4.grown hgr5 hB4.size (fun k hk => by have := (hK4.allLt k hk).1; omega); obtain ⟨a5, n5, c5, hv5, hby5⟩ := hown5.bytes; obtain rfl := hv5; have hn5 := hby5.1; obtain rfl := hn5)
            | (go_at_call 14; go_must (refine (len_any w.heap.size _ _ hK5.hash).mono ?_); rintro e w6 ⟨rfl, rfl⟩)
            | (go_at_call 15; go_must (refine (hsum_any w.heap.size q w5 hK5.hash (hT.out.below hB5) (by have := hgs.out; omega) (by have := hll.out; omega)).mono ?_); rintro e w7 ⟨rfl, hbel7⟩; have hB7 := hB5.trans (hbel7.mono hB5.size))
            | (go_at_call 10; go_must (refine (rsum_any a5 q.length c5 q w7 (hby5.below hbel7) (by have := hll.out; omega)).mono ?_); rintro e w8 ⟨rfl, hbel8⟩; have hB8 := hB7.trans (hbel8.mono hB7.size); have hK8 := (hK5.below hbel7).below hbel8)
            | ((with_reducible show wpList _ _ _ (⟨some 52, _, _, _, _, _⟩ :: _) _ _); go_must (refine neq_sum_g (by rfl) (.tmp 49) (.tmp 51) _ rfl q rfl rfl ?_)))
          go_roundg (gk - 1)
          case measure => have := HG.out; omega
          case rel =>
            refine ⟨i + 1, by have := HG.out; omega, by go_num, ?_, hB8, ?_⟩
            · rw [HFL.out, HTK.out, ← HPP.out, ← HF.out, ← HQ.out]; exact hK8
            · rw [HFL.out, ← HPP.out, ← HF.out, List.length_append]; have := HPN.out; omega
        · have hd2 : decide (2000 < (n' : Int)) = true := by simp; omega
          clear hK
          go_wp2
          go_ret
          exact ⟨rfl, hbel⟩
      · obtain rfl : i = n := by omega
        have htk : ps.take i = ps := by rw [← HPL.out, List.take_length]
        rw [htk] at hK hlen
        clear htk hp hi
        obtain ⟨ac, nc, cc, rfl, hpc⟩ := hK.parts (by rw [HPL.out]; omega)
        obtain ⟨a5, n5, c5, hv5, hby5⟩ := hK.all.bytes
        obtain rfl := hv5
        have hl := Lib.hid (show ps.flatten.length ≤ 100000 by omega)
        clear hlen
        go_wp2_with (first
          | (go_at_call 8; go_must (refine (sum_any ac nc cc ps wr hpc (hT.out.below hbel) (by have := hl.out; omega)).mono ?_); rintro e w6 ⟨rfl, hb6⟩; have hB6 := hbel.trans (hb6.mono hbel.size); have hK6 := hK.below hb6)
          | ((with_reducible show Calls _ 10 _ w6 _); go_must (refine (rsum_any a5 n5 c5 ps.flatten w6 (hby5.below hb6) (by have := hl.out; omega)).mono ?_); rintro e w7 ⟨rfl, hb7⟩; have hB7 := hB6.trans (hb7.mono hB6.size); have hK7 := hK6.below hb7)
          | ((with_reducible show wpList _ _ _ (⟨some 58, _, _, _, _, _⟩ :: _) _ _); go_must (refine eql_sum rfl (.tmp 55) (.tmp 57) _ rfl ps.flatten rfl rfl ?_))
          | (go_at_call 15; go_must (refine (hsum_any w.heap.size ps.flatten w7 hK7.hash (hT.out.below hB7) (by have := hgs.out; omega) (by have := hl.out; omega)).mono ?_); rintro e w8 ⟨rfl, hb8⟩; have hB8 := hB7.trans (hb8.mono hB7.size))
          | ((with_reducible show Calls _ 10 _ w8 _); go_must (refine (rsum_any a5 n5 c5 ps.flatten w8 (((hby5.below hb6).below hb7).below hb8) (by have := hl.out; omega)).mono ?_); rintro e w9 ⟨rfl, hb9⟩; have hB9 := hB8.trans (hb9.mono hB8.size))
          | ((with_reducible show wpList _ _ _ (⟨some 64, _, _, _, _, _⟩ :: _) _ _); go_must (refine eql_sum_g (by rfl) (.tmp 61) (.tmp 63) _ rfl ps.flatten rfl rfl ?_))
          | (go_at_call 11; go_must (refine (awake_any _ (hT.out.below hB9)).mono ?_); rintro e w10 ⟨rfl, hb10⟩))
        go_ret
        exact ⟨rfl, hB9.trans (hb10.mono hB9.size)⟩
  · have hd : decide (40 < (n : Int)) = true := by simp; omega
    clear hp
    go_enter Tryd.func4, Tryd.ntmps4
    go_wp2
    go_ret
    exact ⟨rfl, Below.refl _ _⟩
#print axioms shaParts_any
end Go.Proofs.YtkjgcgdfofheeaaDoor
