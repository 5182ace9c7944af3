/-
  slices.Clone and slices.Delete at names with ids, and at the log's entries: walked.
-/
import Derived.Test.YtjjnbigfdonjlaaDoorGrp9
import Derived.Deep.RegionLaw
namespace Go.Proofs.YtjjnbigfdonjlaaDoor
open Go.RowKit

theorem sizeNf : (Value.agg (rnL ([], zId)).toArray).cells.size = rnK.k := by kernel_rfl
theorem sizeEf : (Value.agg (enL default).toArray).cells.size = enK.k := by kernel_rfl
theorem size_le_alloc (w : World) (o : Obj) : w.heap.size ≤ (w.alloc o).heap.size := by simp

set_option maxRecDepth 100000 in
set_option maxHeartbeats 1000000 in
theorem cloneN_any (a : Option Addr) (n c : Nat) (L : List RName) (w : World) (h : AtG rnK w a n c L) (hn : n ≤ 1000000) :
    Calls Tryd.prog 73 #[.slice a n c] w fun e w' => ∃ a' c', e = .returned (.slice a' n c') ∧ OwnG rnK NEf w' w.heap.size (.slice a' n c') L ∧ Below w.heap.size w w' := by
  have HLN := Lib.hid h.1
  have q := fun W (a : Option Addr) n c n' c' => Lib.run_eql_slice_nil (P := Tryd.prog) W _ _ a n c n' c' Tryd.underlying33
  cases a with
  | none =>
    have h0 : n = 0 ∧ c = 0 := by
      rcases h.2.2.2.2 with h1 | ⟨b, o, h1, _⟩
      · exact h1
      · cases h1
    obtain ⟨rfl, rfl⟩ := h0
    have hL : L = [] := List.length_eq_zero_iff.1 h.1
    subst hL
    clear h
    go_enter Tryd.func73, Tryd.ntmps73
    go_wp2
    go_ret
    exact ⟨none, 0, rfl, OwnG.nil, Below.refl _ _⟩
  | some ad =>
    have HN := Lib.hid h
    have HB := Lib.hid ((Below.refl w.heap.size w).alloc (Nat.le_refl _) (.cells #[] NEf))
    have HO := Lib.hid (OwnG.lit (K := rnK) (E := NEf) (w := w) (L := []) rfl #[] rfl)
    have HS := Lib.hid (size_le_alloc w (.cells #[] NEf))
    have HH : Hid ((([] : List RName).length + n) * (48 + 1) ≤ 140737488355328) := Lib.hid (by simp; omega)
    have HR : Hid (n = ([] : List RName).length + n) := Lib.hid (by simp)
    clear h hn
    go_enter Tryd.func73, Tryd.ntmps73
    go_wp2_with ((with_reducible show wpList _ _ _ (⟨some 7, _, _, _, _, _⟩ :: _) _ _); go_must (refine appG rnK Tryd.underlying33 infoNf sizeNf rfl _ _ rfl w.heap.size _ [] rfl HO.out _ n c L rfl (HN.out.below HB.out) HH.out HS.out n HR.out ?_); intro a7 c7 W7 ho7 hg7; have HB7 := Lib.hid (HB.out.grown hg7 HB.out.size (fun k hk => by cases hk; exact Nat.le_refl _)); have HO7 := Lib.hid ho7; clear ho7 hg7)
    go_ret
    exact ⟨a7, c7, rfl, by have := HO7.out; rwa [List.nil_append] at this, HB7.out⟩

set_option maxRecDepth 100000 in
set_option maxHeartbeats 2000000 in
theorem deleteN_any (g n c i j base : Nat) (z : Int) (L : List RName) (w : World) (h : OwnG rnK NEf w base (.slice (some ⟨g, 0, none⟩) n c) L) (hi : i < n) (hj : j = i + 1) (hz : z = (j : Int)) (hn : n ≤ 1000000) :
    Calls Tryd.prog 93 #[.slice (some ⟨g, 0, none⟩) n c, .int .i64 i, .int .i64 z] w fun e w' => e = .returned (.slice (some ⟨g, 0, none⟩) (n - 1) c) ∧ OwnG rnK NEf w' base (.slice (some ⟨g, 0, none⟩) (n - 1) c) (L.eraseIdx i) ∧ w.grownBy w' (some g) := by
  subst hz
  have hln := h.len
  obtain ⟨hnc, hcm, hgl, hgb, _⟩ := own_cap (hln ▸ h.1 : w.ownsRow base NEf 33 (.slice (some ⟨g, 0, none⟩) n c) n (flatG rnK L))
  have hcM : c ≤ 9223372036854775807 := by unfold maxLen at hcm; omega
  have hown0 : w.ownsRow base NEf 33 (.slice (some ⟨g, 0, none⟩) n c) n (flatG rnK L) := hln ▸ h.1
  obtain ⟨news, hnews⟩ : ∃ news, news = flatG rnK (L.drop j) := ⟨_, rfl⟩
  have hdok : ∀ x ∈ L.drop j, (rnK).ok x := fun x hx => h.2 x (List.mem_of_mem_drop hx)
  have hnl : news.length = (n - j) * 33 := by rw [hnews, flatG_len hdok, List.length_drop, hln]; rfl
  have hfl : (flatG rnK L).length = n * 33 := by rw [flatG_len h.2, hln]; rfl
  have hdr : (flatG rnK L).drop (j * 33) = news := by rw [hnews]; exact flatG_drop h.2 j
  obtain ⟨A, hA, hsrc⟩ : ∃ A : Addr, (if c = j then some (⟨g, 0, none⟩ : Addr) else some ⟨g, j * 33, none⟩) = some A ∧ Hid (∀ t u, news[t]? = some u → w.drew.cell? (A.add t) = some u) := by
    by_cases hc : c = j
    · refine ⟨⟨g, 0, none⟩, by simp [hc], Lib.hid (fun t u hu => ?_)⟩
      have h0 : news.length = 0 := by rw [hnl, show n - j = 0 by omega, Nat.zero_mul]
      rw [List.length_eq_zero_iff.1 h0] at hu
      simp at hu
    · refine ⟨⟨g, j * 33, none⟩, by simp [hc], Lib.hid (fun t u hu => ?_)⟩
      rw [← hdr, List.getElem?_drop] at hu
      have hlt := (List.getElem?_eq_some_iff.1 hu).1
      have h2 := World.ownsRow.cellAt hown0 (j * 33 + t) (by rw [hfl] at hlt; exact hlt)
      rw [Addr.add_lit]
      exact h2.trans hu
  have s1 := Lib.hid hnl
  have s2 : Hid (∀ u ∈ news, u.oneCell' = true) := Lib.hid (by rw [hnews]; exact flatG_one rnK hdok)
  have s3 : Hid (∀ t, t < news.length → (w.drew.cell? ⟨g, 0 + i * 33 + t, none⟩).isSome = true ∧ w.drew.frozen? ⟨g, 0 + i * 33 + t, none⟩ = false) := Lib.hid (fun t ht => by
    rw [Nat.zero_add]
    refine own_there (w := w.drew) hown0 (i * 33 + t) ?_
    rw [hnl] at ht
    omega)
  obtain ⟨W1, hW1⟩ : ∃ W1, W1 = w.drew.setCells g (0 + i * 33) news := ⟨_, rfl⟩
  obtain ⟨ho1, hg1⟩ := own_setCells news (i * 33) (w := w.drew) hown0
  rw [Nat.zero_add] at hW1
  rw [← hW1] at ho1 hg1
  have HW1 : Hid (W1 = w.drew.setCells g (0 + i * 33) news) := Lib.hid (by rw [Nat.zero_add]; exact hW1)
  obtain ⟨i0, hi0, hz0, hz1, hz2⟩ := info_parts infoNf
  have HCL := Lib.hid (fun ty => run_clear_k (P := Tryd.prog) W1 33 NEf ty _ 33 Tryd.underlying33 (show (zeroValue NEf).run Tryd.prog W1 = .ok (.agg (rnL ([], zId)).toArray) W1 by kernel_rfl) (by kernel_rfl) (fun v hv => rnL_one ([], zId) v (by simpa using hv)) g ((n - 1) * 33) (c - (n - 1)) (fun j hj => own_there ho1 ((n - 1) * 33 + j) (by omega)))
  have HO1 := Lib.hid ho1
  have HG1 := Lib.hid hg1
  have HNE := Lib.hid hnews
  have HLE := Lib.hid hln
  have HOK := Lib.hid h.2
  have HGW : Hid (w.grownBy W1 (some g)) := Lib.hid ⟨hg1.os, hg1.tape, hg1.output, hg1.size, hg1.block⟩
  have hi0I : (0 : Int) ≤ (i : Int) := by omega
  have hiI : (i : Int) < (n : Int) := by omega
  have hnI : (n : Int) ≤ 1000000 := by omega
  have hncI : (n : Int) ≤ (c : Int) := by omega
  have hcI : (c : Int) ≤ 9223372036854775807 := by omega
  have hne1 : ¬ ((i : Int) = (j : Int)) := by omega
  have hij : i ≤ j := by omega
  have hijI : (i : Int) ≤ (j : Int) := by omega
  have hjI : (j : Int) ≤ (n : Int) := by omega
  have hj0 : (0 : Int) ≤ (j : Int) := by omega
  have hic : i ≤ c := by omega
  have hjc : j ≤ c := by omega
  have hjn : j ≤ n := by omega
  have hie : i + (n - j) = n - 1 := by omega
  have HIN := Lib.hid hi
  have HJ := Lib.hid hj
  clear hW1 hnews hdok hnl hfl hdr hown0 ho1 hg1 h hgl hgb hcm hln hj
  go_enter Tryd.func93, Tryd.ntmps93
  go_wp2
  go_region_law ((refine step_append_room rfl (.tmp 22) (.tmp 25) 33 rfl NEf i0 33 Tryd.underlying33 hi0 hz1 g 0 i c (by simp [Act.eval, Act.put]) A (n - j) (c - j) news (by simp [Act.eval, Act.put]) s1.out hsrc.out s2.out (by omega) s3.out ?_); rw [← HW1.out, hie])
  clear hA hsrc
  go_wp2
  obtain ⟨zs, hzl, hrun⟩ := HCL.out 0
  have hnn : n - (n - 1) = 1 := by have := HIN.out; omega
  rw [hnn, hrun]
  have HRN := Lib.hid hrun
  have HZL := Lib.hid hzl
  clear hrun hzl hnn
  go_wp2
  go_ret
  obtain ⟨h1, h2⟩ := own_setCells zs ((n - 1) * 33) HO1.out
  have h3 := own_less h1 (Nat.sub_le n 1)
  have h4 := flatG_erase HOK.out HLE.out HIN.out zs
  have hle : (L.eraseIdx i).length = n - 1 := by rw [List.length_eraseIdx, if_pos (by rw [HLE.out]; exact HIN.out), HLE.out]
  rw [HNE.out, show j = i + 1 from HJ.out, show flatG rnK (L.drop (i + 1)) = flatG rnK (L.drop (i + 1)) from rfl] at h3
  refine ⟨rfl, ⟨?_, fun x hx => HOK.out x (List.mem_of_mem_eraseIdx hx)⟩, HGW.out.trans h2⟩
  rw [hle, ← h4]
  exact h3

set_option maxRecDepth 100000 in
set_option maxHeartbeats 1000000 in
theorem cloneE_any (a : Option Addr) (n c : Nat) (L : List EntV) (w : World) (h : AtG enK w a n c L) (hn : n ≤ 1000000) :
    Calls Tryd.prog 74 #[.slice a n c] w fun e w' => ∃ a' c', e = .returned (.slice a' n c') ∧ OwnG enK EEf w' w.heap.size (.slice a' n c') L ∧ Below w.heap.size w w' := by
  have HLN := Lib.hid h.1
  have q := fun W (a : Option Addr) n c n' c' => Lib.run_eql_slice_nil (P := Tryd.prog) W _ _ a n c n' c' Tryd.underlying25
  cases a with
  | none =>
    have h0 : n = 0 ∧ c = 0 := by
      rcases h.2.2.2.2 with h1 | ⟨b, o, h1, _⟩
      · exact h1
      · cases h1
    obtain ⟨rfl, rfl⟩ := h0
    have hL : L = [] := List.length_eq_zero_iff.1 h.1
    subst hL
    clear h
    go_enter Tryd.func74, Tryd.ntmps74
    go_wp2
    go_ret
    exact ⟨none, 0, rfl, OwnG.nil, Below.refl _ _⟩
  | some ad =>
    have HN := Lib.hid h
    have HB := Lib.hid ((Below.refl w.heap.size w).alloc (Nat.le_refl _) (.cells #[] EEf))
    have HO := Lib.hid (OwnG.lit (K := enK) (E := EEf) (w := w) (L := []) rfl #[] rfl)
    have HS := Lib.hid (size_le_alloc w (.cells #[] EEf))
    have HH : Hid ((([] : List EntV).length + n) * (104 + 1) ≤ 140737488355328) := Lib.hid (by simp; omega)
    have HR : Hid (n = ([] : List EntV).length + n) := Lib.hid (by simp)
    clear h hn
    go_enter Tryd.func74, Tryd.ntmps74
    go_wp2_with ((with_reducible show wpList _ _ _ (⟨some 7, _, _, _, _, _⟩ :: _) _ _); go_must (refine appG enK Tryd.underlying25 infoEf sizeEf rfl _ _ rfl w.heap.size _ [] rfl HO.out _ n c L rfl (HN.out.below HB.out) HH.out HS.out n HR.out ?_); intro a7 c7 W7 ho7 hg7; have HB7 := Lib.hid (HB.out.grown hg7 HB.out.size (fun k hk => by cases hk; exact Nat.le_refl _)); have HO7 := Lib.hid ho7; clear ho7 hg7)
    go_ret
    exact ⟨a7, c7, rfl, by have := HO7.out; rwa [List.nil_append] at this, HB7.out⟩

set_option maxRecDepth 100000 in
set_option maxHeartbeats 2000000 in
theorem deleteE_any (g n c i j base : Nat) (z : Int) (L : List EntV) (w : World) (h : OwnG enK EEf w base (.slice (some ⟨g, 0, none⟩) n c) L) (hi : i < n) (hj : j = i + 1) (hz : z = (j : Int)) (hn : n ≤ 1000000) :
    Calls Tryd.prog 78 #[.slice (some ⟨g, 0, none⟩) n c, .int .i64 i, .int .i64 z] w fun e w' => e = .returned (.slice (some ⟨g, 0, none⟩) (n - 1) c) ∧ OwnG enK EEf w' base (.slice (some ⟨g, 0, none⟩) (n - 1) c) (L.eraseIdx i) ∧ w.grownBy w' (some g) := by
  subst hz
  have hln := h.len
  obtain ⟨hnc, hcm, hgl, hgb, _⟩ := own_cap (hln ▸ h.1 : w.ownsRow base EEf 67 (.slice (some ⟨g, 0, none⟩) n c) n (flatG enK L))
  have hcM : c ≤ 9223372036854775807 := by unfold maxLen at hcm; omega
  have hown0 : w.ownsRow base EEf 67 (.slice (some ⟨g, 0, none⟩) n c) n (flatG enK L) := hln ▸ h.1
  obtain ⟨news, hnews⟩ : ∃ news, news = flatG enK (L.drop j) := ⟨_, rfl⟩
  have hdok : ∀ x ∈ L.drop j, (enK).ok x := fun x hx => h.2 x (List.mem_of_mem_drop hx)
  have hnl : news.length = (n - j) * 67 := by rw [hnews, flatG_len hdok, List.length_drop, hln]; rfl
  have hfl : (flatG enK L).length = n * 67 := by rw [flatG_len h.2, hln]; rfl
  have hdr : (flatG enK L).drop (j * 67) = news := by rw [hnews]; exact flatG_drop h.2 j
  obtain ⟨A, hA, hsrc⟩ : ∃ A : Addr, (if c = j then some (⟨g, 0, none⟩ : Addr) else some ⟨g, j * 67, none⟩) = some A ∧ Hid (∀ t u, news[t]? = some u → w.drew.cell? (A.add t) = some u) := by
    by_cases hc : c = j
    · refine ⟨⟨g, 0, none⟩, by simp [hc], Lib.hid (fun t u hu => ?_)⟩
      have h0 : news.length = 0 := by rw [hnl, show n - j = 0 by omega, Nat.zero_mul]
      rw [List.length_eq_zero_iff.1 h0] at hu
      simp at hu
    · refine ⟨⟨g, j * 67, none⟩, by simp [hc], Lib.hid (fun t u hu => ?_)⟩
      rw [← hdr, List.getElem?_drop] at hu
      have hlt := (List.getElem?_eq_some_iff.1 hu).1
      have h2 := World.ownsRow.cellAt hown0 (j * 67 + t) (by rw [hfl] at hlt; exact hlt)
      rw [Addr.add_lit]
      exact h2.trans hu
  have s1 := Lib.hid hnl
  have s2 : Hid (∀ u ∈ news, u.oneCell' = true) := Lib.hid (by rw [hnews]; exact flatG_one enK hdok)
  have s3 : Hid (∀ t, t < news.length → (w.drew.cell? ⟨g, 0 + i * 67 + t, none⟩).isSome = true ∧ w.drew.frozen? ⟨g, 0 + i * 67 + t, none⟩ = false) := Lib.hid (fun t ht => by
    rw [Nat.zero_add]
    refine own_there (w := w.drew) hown0 (i * 67 + t) ?_
    rw [hnl] at ht
    omega)
  obtain ⟨W1, hW1⟩ : ∃ W1, W1 = w.drew.setCells g (0 + i * 67) news := ⟨_, rfl⟩
  obtain ⟨ho1, hg1⟩ := own_setCells news (i * 67) (w := w.drew) hown0
  rw [Nat.zero_add] at hW1
  rw [← hW1] at ho1 hg1
  have HW1 : Hid (W1 = w.drew.setCells g (0 + i * 67) news) := Lib.hid (by rw [Nat.zero_add]; exact hW1)
  obtain ⟨i0, hi0, hz0, hz1, hz2⟩ := info_parts infoEf
  have HCL := Lib.hid (fun ty => run_clear_k (P := Tryd.prog) W1 25 EEf ty _ 67 Tryd.underlying25 (show (zeroValue EEf).run Tryd.prog W1 = .ok (.agg (enL default).toArray) W1 by kernel_rfl) (by kernel_rfl) (fun v hv => enL_one default v (by simpa using hv)) g ((n - 1) * 67) (c - (n - 1)) (fun j hj => own_there ho1 ((n - 1) * 67 + j) (by omega)))
  have HO1 := Lib.hid ho1
  have HG1 := Lib.hid hg1
  have HNE := Lib.hid hnews
  have HLE := Lib.hid hln
  have HOK := Lib.hid h.2
  have HGW : Hid (w.grownBy W1 (some g)) := Lib.hid ⟨hg1.os, hg1.tape, hg1.output, hg1.size, hg1.block⟩
  have hi0I : (0 : Int) ≤ (i : Int) := by omega
  have hiI : (i : Int) < (n : Int) := by omega
  have hnI : (n : Int) ≤ 1000000 := by omega
  have hncI : (n : Int) ≤ (c : Int) := by omega
  have hcI : (c : Int) ≤ 9223372036854775807 := by omega
  have hne1 : ¬ ((i : Int) = (j : Int)) := by omega
  have hij : i ≤ j := by omega
  have hijI : (i : Int) ≤ (j : Int) := by omega
  have hjI : (j : Int) ≤ (n : Int) := by omega
  have hj0 : (0 : Int) ≤ (j : Int) := by omega
  have hic : i ≤ c := by omega
  have hjc : j ≤ c := by omega
  have hjn : j ≤ n := by omega
  have hie : i + (n - j) = n - 1 := by omega
  have HIN := Lib.hid hi
  have HJ := Lib.hid hj
  clear hW1 hnews hdok hnl hfl hdr hown0 ho1 hg1 h hgl hgb hcm hln hj
  go_enter Tryd.func78, Tryd.ntmps78
  go_wp2
  go_region_law ((refine step_append_room rfl (.tmp 22) (.tmp 25) 25 rfl EEf i0 67 Tryd.underlying25 hi0 hz1 g 0 i c (by simp [Act.eval, Act.put]) A (n - j) (c - j) news (by simp [Act.eval, Act.put]) s1.out hsrc.out s2.out (by omega) s3.out ?_); rw [← HW1.out, hie])
  clear hA hsrc
  go_wp2
  obtain ⟨zs, hzl, hrun⟩ := HCL.out 0
  have hnn : n - (n - 1) = 1 := by have := HIN.out; omega
  rw [hnn, hrun]
  have HRN := Lib.hid hrun
  have HZL := Lib.hid hzl
  clear hrun hzl hnn
  go_wp2
  go_ret
  obtain ⟨h1, h2⟩ := own_setCells zs ((n - 1) * 67) HO1.out
  have h3 := own_less h1 (Nat.sub_le n 1)
  have h4 := flatG_erase HOK.out HLE.out HIN.out zs
  have hle : (L.eraseIdx i).length = n - 1 := by rw [List.length_eraseIdx, if_pos (by rw [HLE.out]; exact HIN.out), HLE.out]
  rw [HNE.out, show j = i + 1 from HJ.out, show flatG enK (L.drop (i + 1)) = flatG enK (L.drop (i + 1)) from rfl] at h3
  refine ⟨rfl, ⟨?_, fun x hx => HOK.out x (List.mem_of_mem_eraseIdx hx)⟩, HGW.out.trans h2⟩
  rw [hle, ← h4]
  exact h3
#print axioms deleteN_any
end Go.Proofs.YtjjnbigfdonjlaaDoor
