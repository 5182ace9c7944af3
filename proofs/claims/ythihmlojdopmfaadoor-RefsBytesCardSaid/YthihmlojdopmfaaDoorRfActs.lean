/-
 The walks of toBranch, toTag and toHead: what an update of each kind does.
-/
import Derived.Test.YthihmlojdopmfaaDoorRfMove
import Derived.Test.YthihmlojdopmfaaDoorGrp1
import Derived.Deep.CutRange
namespace Go.Proofs.YthihmlojdopmfaaDoor
open Go.RowKit

def branchF (r : RefsV) (u : UpdV) : RefsV × Nat := if (moveF r.br u).2 = 0 ∧ u.new = idZero ∧ u.name = r.head then (r, 16) else ({ r with br := (moveF r.br u).1 }, (moveF r.br u).2)
def tagF (r : RefsV) (u : UpdV) : RefsV × Nat := if u.old ≠ idZero ∧ u.new ≠ idZero then (r, 1) else ({ r with tg := (moveF r.tg u).1 }, (moveF r.tg u).2)
def headUF (r : RefsV) (u : UpdV) : RefsV × Nat := if u.old ≠ idZero ∨ (u.new = idZero ↔ u.name = []) then (r, 1) else if u.name ≠ [] ∧ nameF u.name = false then (r, 10) else ({ r with head := u.name, at_ := u.new }, 0)
def Kept3 (w w' : World) (g : Nat) (S : RfS) : Prop := ∀ k, k < w.heap.size → k ≠ g → some k ≠ (Value.slice S.ab S.nb S.cb).ownBlock → some k ≠ (Value.slice S.ag S.ng S.cg).ownBlock → some k ≠ (Value.slice S.al S.nl S.cl).ownBlock → w'.heap[k]? = w.heap[k]?
section
variable {w w1 w2 : World} {g : Nat} {S : RfS}
theorem Kept3.of (h : Below w.heap.size w w1) : Kept3 w w1 g S := fun k hk _ _ _ _ => h.block k hk
theorem Kept3.below (h : Kept3 w w1 g S) (hs : w.heap.size ≤ w1.heap.size) (hb : Below w1.heap.size w1 w2) : Kept3 w w2 g S := fun k hk h1 h2 h3 h4 => (hb.block k (Nat.lt_of_lt_of_le hk hs)).trans (h k hk h1 h2 h3 h4)
theorem Kept3.drew (h : Kept3 w w1 g S) : Kept3 w w1.drew g S := h
theorem Kept3.grown {row : Option Nat} (h : Kept3 w w1 g S) (hs : w.heap.size ≤ w1.heap.size) (hg : w1.grownBy w2 row) (hr : row = (Value.slice S.ab S.nb S.cb).ownBlock ∨ row = (Value.slice S.ag S.ng S.cg).ownBlock ∨ row = (Value.slice S.al S.nl S.cl).ownBlock) : Kept3 w w2 g S := fun k hk h1 h2 h3 h4 => by
 have hne : some k ≠ row := by rcases hr with rfl | rfl | rfl <;> assumption
 exact (hg.block k (Nat.lt_of_lt_of_le hk hs) hne).trans (h k hk h1 h2 h3 h4)
theorem Kept3.setCell (h : Kept3 w w1 g S) (o : Nat) (v : Value) : Kept3 w (w1.setCell ⟨g, o, none⟩ v) g S := fun k hk h1 h2 h3 h4 => (Below.heap_setCell _ _ _ _ h1).trans (h k hk h1 h2 h3 h4)
theorem Kept3.setCells (h : Kept3 w w1 g S) : ∀ (vs : List Value) (o : Nat), Kept3 w (w1.setCells g o vs) g S := by
 intro vs
 induction vs generalizing w1 with
 | nil => exact fun _ => h
 | cons v vs ih => exact fun o => ih (h.setCell o v) (o + 1)
end
def ActIs (w : World) (base g : Nat) (S0 : RfS) (r : RefsV × Nat) (e : Ending) (w' : World) : Prop := e = .returned (.int .i64 (r.2 : Nat)) ∧ (r.2 = 0 → ∃ S, RowAt w' g REf (rfL S r.1.head r.1.at_) ∧ RfOwn w' base S r.1) ∧ Below base w w' ∧ Kept3 w w' g S0
theorem size66 {u : UpdV} (h : UpOk u) : (Tryd.prog.info? UEf).map (·.size) = some (upL u).length := by rw [upL_len h]; kernel_rfl
theorem row_ne {w : World} {g base k n : Nat} {E E' : TypeId} {cs xs : List Value} {v : Value} (h : RowAt w g E cs) (h' : w.ownsRow base E' k v n xs) (hE : E ≠ E' := by decide) : some g ≠ v.ownBlock := by
 obtain ⟨_, h2'⟩ := h'
 intro e
 rcases h2' with ⟨rfl, _⟩ | ⟨g', cap', cur', rfl, _, hg', _⟩
 ·simp [Value.ownBlock] at e
 ·simp only [Value.ownBlock, Option.some.injEq] at e
  subst e
  unfold RowAt at h
  rw [h] at hg'
  simp only [Option.some.injEq, Obj.cells.injEq] at hg'
  exact absurd hg'.2.1 hE
section
variable {w w' : World} {base g : Nat} {S : RfS} {r : RefsV} {L : List RName} {a' : Option Addr} {n' c' : Nat}
theorem holds_setBox {cs : List Value} {Hs : List Hold} (h : Holds w base Hs) (hR : RowAt w g REf cs) (hE : ∀ x ∈ Hs, x.E ≠ REf) (o : Nat) (v : Value) : Holds (w.setCell ⟨g, o, none⟩ v) base Hs := by
 refine ⟨fun x hx => ?_, h.two⟩
 obtain ⟨h1, h2⟩ := h.own x hx
 refine ⟨h1, ?_⟩
 rcases h2 with h2 | ⟨b, cap, cur, hv, hb, hh, r⟩
 ·exact .inl h2
 ·refine .inr ⟨b, cap, cur, hv, hb, ?_, r⟩
  have hne : b ≠ g := fun e => by
   subst e
   unfold RowAt at hR
   rw [hh] at hR
   simp only [Option.some.injEq, Obj.cells.injEq] at hR
   exact hE x hx hR.2.1
  rw [Below.heap_setCell _ _ _ _ hne]; exact hh
theorem NErf : NEf ≠ REf := by decide
theorem EErf : EEf ≠ REf := by decide
theorem putBr {cs : List Value} (h : RfOwn w base S r) (hg : w.grownBy w' (Value.slice S.ab S.nb S.cb).ownBlock) (ho : OwnG rnK NEf w' base (.slice a' n' c') L) (ht : Told w (.slice S.ab S.nb S.cb) (.slice a' n' c')) (hR : RowAt w' g REf cs) :
  RfOwn (w'.setCell ⟨g, 0, none⟩ (.slice a' n' c')) base { S with ab := a', nb := n', cb := c' } { r with br := L } := by
 have H := h.holds.put (h' := hG rnK NEf (.slice a' n' c') L) hg ho.1 ht
 exact ⟨holds_setBox H hR (fun x hx => by simp only [List.mem_cons, List.not_mem_nil, or_false] at hx; rcases hx with rfl | rfl | rfl <;> first | exact NErf | exact EErf) _ _, ho.2, h.okg, h.okl, h.at_⟩
theorem putTg {cs : List Value} (h : RfOwn w base S r) (hg : w.grownBy w' (Value.slice S.ag S.ng S.cg).ownBlock) (ho : OwnG rnK NEf w' base (.slice a' n' c') L) (ht : Told w (.slice S.ag S.ng S.cg) (.slice a' n' c')) (hR : RowAt w' g REf cs) :
  RfOwn (w'.setCell ⟨g, 1, none⟩ (.slice a' n' c')) base { S with ag := a', ng := n', cg := c' } { r with tg := L } := by
 have H := ((h.holds.perm (List.Perm.swap _ _ _)).put (h' := hG rnK NEf (.slice a' n' c') L) hg ho.1 ht).perm (List.Perm.swap _ _ _)
 exact ⟨holds_setBox H hR (fun x hx => by simp only [List.mem_cons, List.not_mem_nil, or_false] at hx; rcases hx with rfl | rfl | rfl <;> first | exact NErf | exact EErf) _ _, h.okb, ho.2, h.okl, h.at_⟩
end

set_option maxRecDepth 100000 in
set_option maxHeartbeats 4000000 in
theorem branch_any (g base : Nat) (S : RfS) (r : RefsV) (u : UpdV) (w : World) (hR : RowAt w g REf (rfL S r.head r.at_)) (hO : RfOwn w base S r) (hA : Asc r.br) (hu : UpOk u) (hgb : base ≤ g) (hb : base ≤ w.heap.size) (hn : S.nb ≤ 100000) :
  Calls Tryd.prog 74 #[.pointer (some ⟨g, 0, none⟩), .agg (upC u)] w (ActIs w base g S (branchF r u)) := by
 have HUO := Lib.hid hu
 have HGB := Lib.hid hgb
 have HBW := Lib.hid hb
 obtain ⟨W0, hW0⟩ : ∃ W0, W0 = w.alloc (.cells (upC u) UEf) := ⟨_, rfl⟩
 have hbel : Below w.heap.size w W0 := by rw [hW0]; exact (Below.refl _ _).alloc (Nat.le_refl _) _
 have HR0 : Hid (RowAt W0.drew g REf (rfL S r.head r.at_)) := Lib.hid (hR.below (w' := W0.drew) hbel.drew)
 have HU0 : Hid (RowAt W0.drew w.heap.size UEf (upL u)) := Lib.hid (show W0.heap[w.heap.size]? = _ by rw [hW0]; exact heap_alloc_new w _)
 have HUR : Hid (W0.drew.rangeAt w.heap.size 0 (upL u)) := Lib.hid (fun i v hv => by rw [Nat.zero_add]; exact HU0.out.cell i hv)
 have HOW := Lib.hid (hO.below (w' := W0.drew) hbel.drew)
 have HB0 : Hid (Below base w W0.drew) := Lib.hid (hbel.drew.mono hb)
 have HF0 : Hid (Kept3 w W0.drew g S) := Lib.hid (Kept3.of hbel.drew)
 have HSZ0 : Hid (w.heap.size ≤ W0.drew.heap.size) := Lib.hid hbel.size
 have hgl : g < w.heap.size := hR.lt
 have HGU : Hid (w.heap.size ≠ g) := Lib.hid (by omega)
 obtain ⟨MV, hMV⟩ : ∃ MV, moveF r.br u = MV := ⟨_, rfl⟩
 have HMV := Lib.hid (move_any S.ab S.nb S.cb base r.br u W0.drew HOW.out.br hA hu (Nat.le_trans hb HB0.out.size) hn)
 rw [hMV] at HMV
 have hbr : branchF r u = if MV.2 = 0 ∧ u.new = idZero ∧ u.name = r.head then (r, 16) else ({ r with br := MV.1 }, MV.2) := by unfold branchF; rw [hMV]
 obtain ⟨Z, hZ⟩ : ∃ Z, branchF r u = Z := ⟨_, rfl⟩
 have HZ := Lib.hid (hbr.symm.trans hZ)
 rw [hZ]
 have HW0 := Lib.hid hW0
 have c0 := HR0.out.cell 0 (v := .slice S.ab S.nb S.cb) rfl
 have HWS := Lib.hid hgl
 clear hR hO hA hu hgb hb hn hbel hgl hMV hbr hW0 hZ
 go_enter Tryd.func74, Tryd.ntmps74
 go_wp2
 rw [← HW0.out]
 go_cut [4] from 5 to 16 (fun v4 W => (∃ a' n' c', Hid (RowAt W g REf ((rfL S r.head r.at_).set 0 (.slice a' n' c'))) ∧ Hid (MV.2 = 0 → RfOwn W base { S with ab := a', nb := n', cb := c' } { r with br := MV.1 })) ∧ Hid (RowAt W w.heap.size UEf (upL u)) ∧ Hid (Below base w W) ∧ Hid (base ≤ W.heap.size) ∧ Hid (Kept3 w W g S ∧ w.heap.size ≤ W.heap.size) ∧ v4 = .int .i64 (MV.2 : Nat))
 case first =>
  refine wp_region_held_drew (S := fun _ => True) (by kernel_rfl) trivial (fun hHeld => ?_)
  refine tk 0 (mo 6 (.move (.tmp 0))) (.pointer (some ⟨g, 0, none⟩)) rfl ?_
  refine tk 1 (mo 7 (.move (.tmp 0))) (.pointer (some ⟨g, 0, none⟩)) rfl ?_
  refine tk 2 (mo 8 (.nilCheck (.tmp 7))) (.pointer (some ⟨g, 0, none⟩)) rfl ?_
  refine tk 3 (mo 9 (.fieldAddr 35 (.tmp 8) 0)) (.pointer (some ⟨g, 0, none⟩)) rfl ?_
  refine rdH [4, 5] ?_
  refine AllReadyH.cons (o := ⟨some 10, .load 33 (.tmp 9), _, _, _, _⟩) rfl (fun K hK => ?_) (AllReadyH.cons (o := ⟨some 11, .load 48 (.tmp 3), _, _, _, _⟩) rfl (fun K hK => ?_) AllReadyH.nil)
  ·go_simp
   refine hK.out _ _ trivial (fun hHeld => ?_)
   clear hK K
   refine rdH [5] ?_
   refine AllReadyH.cons (o := ⟨some 11, .load 48 (.tmp 3), _, _, _, _⟩) rfl (fun K hK => ?_) AllReadyH.nil
   refine ready_step (wp_load_mid _ _ rfl w.heap.size 0 rfl (upL u) _ HUR.out Tryd.underlying48 rfl (size66 HUO.out) ?_)
   refine hK.out _ _ trivial (fun hHeld => ?_)
   clear hK K
   simp only [Act.put, List.setIfInBounds_toArray, List.set_cons_zero, List.set_cons_succ]
   refine rdH [6] ?_
   refine AllReadyH.cons (o := ⟨some 12, .call { callee := .value (.func 88), args := #[(.tmp 10), (.tmp 11)], argTypes := #[33, 48] }, _, _, _, _⟩) rfl (fun K hK => ?_) AllReadyH.nil
   go_simp
   refine HMV.out.mono ?_
   rintro e wm ⟨a', n', c', rfl, hok, hgm⟩
   have HRm := Lib.hid (HR0.out.grown hgm (row_ne HR0.out HOW.out.br.1))
   have HUm := Lib.hid (HU0.out.grown hgm (row_ne HU0.out HOW.out.br.1))
   have HBm := Lib.hid (HB0.out.grown hgm (Nat.le_trans HBW.out HB0.out.size) (fun q hq => (HOW.out.br.lt q hq).1))
   have HFm := Lib.hid (HF0.out.grown HSZ0.out hgm (.inl rfl))
   have HSm := Lib.hid (Nat.le_trans HSZ0.out hgm.size)
   have HOKm := Lib.hid hok
   have HGm := Lib.hid hgm
   clear hok hgm
   refine hK.out _ _ trivial (fun hHeld => ?_)
   clear hK K
   refine tk 7 (mo 5 (.move (.tmp 12))) (.tuple #[.slice a' n' c', .int .i64 (MV.2 : Nat)]) rfl ?_
   refine tk 8 (mo 13 (.extract (.tmp 5) 0)) (.slice a' n' c') rfl ?_
   refine tk 9 (mo 14 (.extract (.tmp 5) 1)) (.int .i64 (MV.2 : Nat)) rfl ?_
   refine tk 10 (mo 15 (.nilCheck (.tmp 6))) (.pointer (some ⟨g, 0, none⟩)) rfl ?_
   refine tk 11 (mo 16 (.fieldAddr 35 (.tmp 15) 0)) (.pointer (some ⟨g, 0, none⟩)) rfl ?_
   refine rdH [12] ?_
   refine AllReadyH.cons (o := ⟨none, .store 33 (.tmp 16) (.tmp 13), _, _, _, _⟩) rfl (fun K hK => ?_) AllReadyH.nil
   have hcell := HRm.out.cell 0 (v := .slice S.ab S.nb S.cb) rfl
   have hfz := HRm.out.free 0
   go_simp
   have HRS := Lib.hid (HRm.out.set 0 (.slice a' n' c'))
   have HUS := Lib.hid (HUm.out.other (a := ⟨g, 0, none⟩) HGU.out (.slice a' n' c'))
   have HBS := Lib.hid (HBm.out.setCell (p := ⟨g, 0, none⟩) HGB.out (.slice a' n' c'))
   have HFS := Lib.hid (And.intro (HFm.out.setCell 0 (.slice a' n' c')) HBS.out.size)
   have HKS := Lib.hid (fun h0 => putBr HOW.out HGm.out (HOKm.out h0).1 (HOKm.out h0).2 HRm.out)
   refine hK.out _ _ trivial (fun hHeld => ?_)
   clear hK K
   refine tk 13 (mo 4 (.assign (.tmp 14))) (.int .i64 (MV.2 : Nat)) rfl ?_
   refine wpAnyH_done (by kernel_rfl) ?_ _
   go_wp2_with fail
   go_meet
   exact ⟨⟨a', n', c', HRS, HKS⟩, HUS, HBS, Lib.hid (Nat.le_trans HBW.out HBS.out.size), HFS, rfl⟩
  ·refine ready_step (wp_load_mid _ _ rfl w.heap.size 0 rfl (upL u) _ HUR.out Tryd.underlying48 rfl (size66 HUO.out) ?_)
   refine hK.out _ _ trivial (fun hHeld => ?_)
   clear hK K
   simp only [Act.put, List.setIfInBounds_toArray, List.set_cons_zero, List.set_cons_succ]
   refine rdH [4] ?_
   refine AllReadyH.cons (o := ⟨some 10, .load 33 (.tmp 9), _, _, _, _⟩) rfl (fun K hK => ?_) AllReadyH.nil
   go_simp
   refine hK.out _ _ trivial (fun hHeld => ?_)
   clear hK K
   refine rdH [6] ?_
   refine AllReadyH.cons (o := ⟨some 12, .call { callee := .value (.func 88), args := #[(.tmp 10), (.tmp 11)], argTypes := #[33, 48] }, _, _, _, _⟩) rfl (fun K hK => ?_) AllReadyH.nil
   go_simp
   refine HMV.out.mono ?_
   rintro e wm ⟨a', n', c', rfl, hok, hgm⟩
   have HRm := Lib.hid (HR0.out.grown hgm (row_ne HR0.out HOW.out.br.1))
   have HUm := Lib.hid (HU0.out.grown hgm (row_ne HU0.out HOW.out.br.1))
   have HBm := Lib.hid (HB0.out.grown hgm (Nat.le_trans HBW.out HB0.out.size) (fun q hq => (HOW.out.br.lt q hq).1))
   have HFm := Lib.hid (HF0.out.grown HSZ0.out hgm (.inl rfl))
   have HSm := Lib.hid (Nat.le_trans HSZ0.out hgm.size)
   have HOKm := Lib.hid hok
   have HGm := Lib.hid hgm
   clear hok hgm
   refine hK.out _ _ trivial (fun hHeld => ?_)
   clear hK K
   refine tk 7 (mo 5 (.move (.tmp 12))) (.tuple #[.slice a' n' c', .int .i64 (MV.2 : Nat)]) rfl ?_
   refine tk 8 (mo 13 (.extract (.tmp 5) 0)) (.slice a' n' c') rfl ?_
   refine tk 9 (mo 14 (.extract (.tmp 5) 1)) (.int .i64 (MV.2 : Nat)) rfl ?_
   refine tk 10 (mo 15 (.nilCheck (.tmp 6))) (.pointer (some ⟨g, 0, none⟩)) rfl ?_
   refine tk 11 (mo 16 (.fieldAddr 35 (.tmp 15) 0)) (.pointer (some ⟨g, 0, none⟩)) rfl ?_
   refine rdH [12] ?_
   refine AllReadyH.cons (o := ⟨none, .store 33 (.tmp 16) (.tmp 13), _, _, _, _⟩) rfl (fun K hK => ?_) AllReadyH.nil
   have hcell := HRm.out.cell 0 (v := .slice S.ab S.nb S.cb) rfl
   have hfz := HRm.out.free 0
   go_simp
   have HRS := Lib.hid (HRm.out.set 0 (.slice a' n' c'))
   have HUS := Lib.hid (HUm.out.other (a := ⟨g, 0, none⟩) HGU.out (.slice a' n' c'))
   have HBS := Lib.hid (HBm.out.setCell (p := ⟨g, 0, none⟩) HGB.out (.slice a' n' c'))
   have HFS := Lib.hid (And.intro (HFm.out.setCell 0 (.slice a' n' c')) HBS.out.size)
   have HKS := Lib.hid (fun h0 => putBr HOW.out HGm.out (HOKm.out h0).1 (HOKm.out h0).2 HRm.out)
   refine hK.out _ _ trivial (fun hHeld => ?_)
   clear hK K
   refine tk 13 (mo 4 (.assign (.tmp 14))) (.int .i64 (MV.2 : Nat)) rfl ?_
   refine wpAnyH_done (by kernel_rfl) ?_ _
   go_wp2_with fail
   go_meet
   exact ⟨⟨a', n', c', HRS, HKS⟩, HUS, HBS, Lib.hid (Nat.le_trans HBW.out HBS.out.size), HFS, rfl⟩
 case rest =>
  obtain ⟨⟨a', n', c', HRS, HKS⟩, HUS, HBS, HBC, HFS, rfl⟩ := hcut
  obtain ⟨p, hp⟩ : ∃ p, strB u.name = p := ⟨_, rfl⟩
  obtain ⟨y, hy⟩ : ∃ y, strB r.head = y := ⟨_, rfl⟩
  obtain ⟨l, hl⟩ : ∃ l, (p.toList == y.toList) = l := ⟨_, rfl⟩
  obtain ⟨z, hz⟩ : ∃ z, decide (u.new = idZero) = z := ⟨_, rfl⟩
  have HLD : Hid (l = decide (u.name = r.head)) := Lib.hid (by rw [← hl, ← hp, ← hy, str_is])
  have HLS := Lib.hid hl
  have HZD := Lib.hid hz
  have HCP := Lib.hid (fun W (hW : Below wc.heap.size wc W) => (hp ▸ up_name (HUS.out.below hW) : W.cell? ⟨w.heap.size, 1, none⟩ = some (.string p)))
  have HCY := Lib.hid (fun W (hW : Below wc.heap.size wc W) => (hy ▸ (HRS.out.below hW).cell 2 (v := .string (strB r.head)) rfl : W.cell? ⟨g, 2, none⟩ = some (.string y)))
  have HCI := Lib.hid (fun W (hW : Below wc.heap.size wc W) => up_new HUO.out (HUS.out.below hW))
  have HZE := Lib.hid (fun W => zero_any u.new HUO.out.2.2 z hz W)
  clear hp hy hl hz
  go_wp2
  have HBd : Hid (Below wc.heap.size wc wc.drew) := Lib.hid (Below.refl _ _).drew
  have HEND := Lib.hid (fun W (hW : Below wc.heap.size wc W) => (⟨(HRS.out.below hW : RowAt W g REf (rfL { S with ab := a', nb := n', cb := c' } r.head r.at_)), fun h => (HKS.out h).below hW, HBS.out.trans (hW.mono HBC.out), HFS.out.1.below HFS.out.2 hW⟩ : RowAt W g REf (rfL { S with ab := a', nb := n', cb := c' } r.head r.at_) ∧ (MV.2 = 0 → RfOwn W base { S with ab := a', nb := n', cb := c' } { r with br := MV.1 }) ∧ Below base w W ∧ Kept3 w W g S))
  refine wp_region_held_drew (S := fun W => Below wc.heap.size wc W) (by kernel_rfl) HBd.out (fun hHeld => ?_)
  by_cases hE : MV.2 = 0
  ·have hEI : ((MV.2 : Nat) : Int) = 0 := by rw [hE]; rfl
   have HE := Lib.hid hE
   have HEI := Lib.hid hEI
   clear hE hEI
   refine tk 0 (mo 17 (.move (.tmp 4))) (.int .i64 (MV.2 : Nat)) rfl ?_
   refine tk 1 (mo 18 (.binOp .eql 30 (.tmp 17) (.const (.int .i64 0)) 30)) (.bool true) rfl ?_ (Or.inl ⟨by rfl, fun W hW => by have hE := HE.out; have hEI := HEI.out; go_simp⟩)
   refine tk 2 (mo 19 (.move (.tmp 18))) (.bool true) rfl ?_
   refine tk 3 (mo 20 (.fieldAddr 48 (.tmp 3) 3)) (.pointer (some ⟨w.heap.size, 34, none⟩)) rfl ?_
   refine tk 4 (mo 21 (.load 24 (.tmp 20))) (.agg (idCells u.new)) rfl ?_ (Or.inl ⟨by rfl, fun W hW => exec_loadId _ rfl _ _ u.new HUO.out.2.2 rfl (HCI.out W hW)⟩)
   refine rdH [5] ?_
   refine AllReadyH.cons (o := ⟨some 22, .call { callee := .value (.func 58), args := #[(.tmp 21)], argTypes := #[24] }, _, _, _, _⟩) rfl (fun K hK => ?_) AllReadyH.nil
   go_simp
   go_wp2_with (go_at_call 58; go_must (refine (HZE.out _).mono ?_); rintro e w7 ⟨rfl, hb7⟩; have HX7 := thn HBd hb7; clear hb7)
   refine hK.out _ _ HX7.out (fun hHeld => ?_)
   clear hK K
   cases z
   ·refine wpAnyH_take (i := 6) (oi := ⟨some 23, .pick (.tmp 19) (.tmp 22) (.const (.bool false)), _, _, _, _⟩) (v := (.bool false)) rfl (by kernel_rfl) (by kernel_rfl) (by kernel_rfl) (fun _ _ _ h => h) (Or.inl ⟨by rfl, fun W hW => by go_simp⟩) (by assumption) ?_
    simp only [Act.put, List.setIfInBounds_toArray, List.set_cons_zero, List.set_cons_succ]
    refine tk 7 (mo 24 (.move (.tmp 23))) (.bool false) rfl ?_
    refine tk 8 (mo 25 (.fieldAddr 48 (.tmp 3) 1)) undef rfl ?_ (Or.inr ⟨by rfl, rfl⟩)
    refine tk 9 (mo 26 (.load 9 (.tmp 25))) undef rfl ?_ (Or.inr ⟨by rfl, rfl⟩)
    refine tk 10 (mo 27 (.move (.tmp 0))) undef rfl ?_ (Or.inr ⟨by rfl, rfl⟩)
    refine tk 11 (mo 28 (.nilCheck (.tmp 27))) undef rfl ?_ (Or.inr ⟨by rfl, rfl⟩)
    refine tk 12 (mo 29 (.fieldAddr 35 (.tmp 28) 2)) undef rfl ?_ (Or.inr ⟨by rfl, rfl⟩)
    refine tk 13 (mo 30 (.load 9 (.tmp 29))) undef rfl ?_ (Or.inr ⟨by rfl, rfl⟩)
    refine tk 14 (mo 31 (.binOp .eql 9 (.tmp 26) (.tmp 30) 9)) undef rfl ?_ (Or.inr ⟨by rfl, rfl⟩)
    refine tk 15 (mo 32 (.pick (.tmp 24) (.tmp 31) (.const (.bool false)))) (.bool false) rfl ?_
    refine wpAnyH_done (by kernel_rfl) ?_ _
    have hZ : Z = ({ r with br := MV.1 }, MV.2) := by rw [← HZ.out, if_neg (fun h => of_decide_eq_false HZD.out h.2.1)]
    subst hZ
    obtain ⟨hrow, hown, hbel, hfr⟩ := HEND.out _ HX7.out
    have HFR := Lib.hid hfr
    have HRW := Lib.hid hrow
    have HOO := Lib.hid hown
    have HBL := Lib.hid hbel
    clear hrow hown hbel hfr
    go_wp2_with fail
    go_ret
    exact ⟨rfl, fun h0 => ⟨_, HRW.out, HOO.out h0⟩, HBL.out, HFR.out⟩
   ·refine wpAnyH_take (i := 6) (oi := ⟨some 23, .pick (.tmp 19) (.tmp 22) (.const (.bool false)), _, _, _, _⟩) (v := (.bool true)) rfl (by kernel_rfl) (by kernel_rfl) (by kernel_rfl) (fun _ _ _ h => h) (Or.inl ⟨by rfl, fun W hW => by go_simp⟩) (by assumption) ?_
    simp only [Act.put, List.setIfInBounds_toArray, List.set_cons_zero, List.set_cons_succ]
    refine tk 7 (mo 24 (.move (.tmp 23))) (.bool true) rfl ?_
    refine tk 8 (mo 25 (.fieldAddr 48 (.tmp 3) 1)) (.pointer (some ⟨w.heap.size, 1, none⟩)) rfl ?_
    refine tk 9 (mo 26 (.load 9 (.tmp 25))) (.string p) rfl ?_ (Or.inl ⟨by rfl, fun W hW => by have hcell := HCP.out W hW; go_simp⟩)
    refine tk 10 (mo 27 (.move (.tmp 0))) (.pointer (some ⟨g, 0, none⟩)) rfl ?_
    refine tk 11 (mo 28 (.nilCheck (.tmp 27))) (.pointer (some ⟨g, 0, none⟩)) rfl ?_
    refine tk 12 (mo 29 (.fieldAddr 35 (.tmp 28) 2)) (.pointer (some ⟨g, 2, none⟩)) rfl ?_
    refine tk 13 (mo 30 (.load 9 (.tmp 29))) (.string y) rfl ?_ (Or.inl ⟨by rfl, fun W hW => by have hcell := HCY.out W hW; go_simp⟩)
    refine tk 14 (mo 31 (.binOp .eql 9 (.tmp 26) (.tmp 30) 9)) (.bool l) rfl ?_ (Or.inl ⟨by rfl, fun W hW => by have hl := HLS.out; go_simp⟩)
    refine tk 15 (mo 32 (.pick (.tmp 24) (.tmp 31) (.const (.bool false)))) (.bool l) rfl ?_
    cases l
    ·refine wpAnyH_done (by kernel_rfl) ?_ _
     have hZ : Z = ({ r with br := MV.1 }, MV.2) := by rw [← HZ.out, if_neg (fun h => of_decide_eq_false HLD.out.symm h.2.2)]
     subst hZ
     obtain ⟨hrow, hown, hbel, hfr⟩ := HEND.out _ HX7.out
     have HFR := Lib.hid hfr
     have HRW := Lib.hid hrow
     have HOO := Lib.hid hown
     have HBL := Lib.hid hbel
     clear hrow hown hbel hfr
     go_wp2_with fail
     go_ret
     exact ⟨rfl, fun h0 => ⟨_, HRW.out, HOO.out h0⟩, HBL.out, HFR.out⟩
    ·refine wpAnyH_done (by kernel_rfl) ?_ _
     have hZ : Z = (r, 16) := by rw [← HZ.out, if_pos ⟨HE.out, of_decide_eq_true HZD.out, of_decide_eq_true HLD.out.symm⟩]
     subst hZ
     obtain ⟨hrow, hown, hbel, hfr⟩ := HEND.out _ HX7.out
     have HFR := Lib.hid hfr
     have HRW := Lib.hid hrow
     have HOO := Lib.hid hown
     have HBL := Lib.hid hbel
     clear hrow hown hbel hfr
     go_wp2_with fail
     go_ret
     exact ⟨rfl, fun h0 => absurd h0 (show ¬ (16 : Nat) = 0 by decide), HBL.out, HFR.out⟩
  ·have hEI : ¬ ((MV.2 : Nat) : Int) = 0 := fun h => hE (Int.natCast_eq_zero.1 h)
   have HE := Lib.hid hE
   have HEI := Lib.hid hEI
   clear hE hEI
   refine tk 0 (mo 17 (.move (.tmp 4))) (.int .i64 (MV.2 : Nat)) rfl ?_
   refine tk 1 (mo 18 (.binOp .eql 30 (.tmp 17) (.const (.int .i64 0)) 30)) (.bool false) rfl ?_ (Or.inl ⟨by rfl, fun W hW => by have hE := HE.out; have hEI := HEI.out; go_simp⟩)
   refine tk 2 (mo 19 (.move (.tmp 18))) (.bool false) rfl ?_
   refine tk 3 (mo 20 (.fieldAddr 48 (.tmp 3) 3)) undef rfl ?_ (Or.inr ⟨by rfl, rfl⟩)
   refine tk 4 (mo 21 (.load 24 (.tmp 20))) undef rfl ?_ (Or.inr ⟨by rfl, rfl⟩)
   refine tk 5 (mo 22 (.call { callee := .value (.func 58), args := #[(.tmp 21)], argTypes := #[24] })) undef rfl ?_ (Or.inr ⟨by rfl, rfl⟩)
   refine tk 6 (mo 23 (.pick (.tmp 19) (.tmp 22) (.const (.bool false)))) (.bool false) rfl ?_
   refine tk 7 (mo 24 (.move (.tmp 23))) (.bool false) rfl ?_
   refine tk 8 (mo 25 (.fieldAddr 48 (.tmp 3) 1)) undef rfl ?_ (Or.inr ⟨by rfl, rfl⟩)
   refine tk 9 (mo 26 (.load 9 (.tmp 25))) undef rfl ?_ (Or.inr ⟨by rfl, rfl⟩)
   refine tk 10 (mo 27 (.move (.tmp 0))) undef rfl ?_ (Or.inr ⟨by rfl, rfl⟩)
   refine tk 11 (mo 28 (.nilCheck (.tmp 27))) undef rfl ?_ (Or.inr ⟨by rfl, rfl⟩)
   refine tk 12 (mo 29 (.fieldAddr 35 (.tmp 28) 2)) undef rfl ?_ (Or.inr ⟨by rfl, rfl⟩)
   refine tk 13 (mo 30 (.load 9 (.tmp 29))) undef rfl ?_ (Or.inr ⟨by rfl, rfl⟩)
   refine tk 14 (mo 31 (.binOp .eql 9 (.tmp 26) (.tmp 30) 9)) undef rfl ?_ (Or.inr ⟨by rfl, rfl⟩)
   refine tk 15 (mo 32 (.pick (.tmp 24) (.tmp 31) (.const (.bool false)))) (.bool false) rfl ?_
   have HX0 := HBd
   refine wpAnyH_done (by kernel_rfl) ?_ _
   have hZ : Z = ({ r with br := MV.1 }, MV.2) := by rw [← HZ.out, if_neg (fun h => HE.out h.1)]
   subst hZ
   obtain ⟨hrow, hown, hbel, hfr⟩ := HEND.out _ HX0.out
   have HFR := Lib.hid hfr
   have HRW := Lib.hid hrow
   have HOO := Lib.hid hown
   have HBL := Lib.hid hbel
   clear hrow hown hbel hfr
   go_wp2_with fail
   go_ret
   exact ⟨rfl, fun h0 => ⟨_, HRW.out, HOO.out h0⟩, HBL.out, HFR.out⟩
set_option maxRecDepth 100000 in
set_option maxHeartbeats 4000000 in
theorem tag_any (g base : Nat) (S : RfS) (r : RefsV) (u : UpdV) (w : World) (hR : RowAt w g REf (rfL S r.head r.at_)) (hO : RfOwn w base S r) (hA : Asc r.tg) (hu : UpOk u) (hgb : base ≤ g) (hb : base ≤ w.heap.size) (hn : S.ng ≤ 100000) :
  Calls Tryd.prog 75 #[.pointer (some ⟨g, 0, none⟩), .agg (upC u)] w (ActIs w base g S (tagF r u)) := by
 have HUO := Lib.hid hu
 have HGB := Lib.hid hgb
 have HBW := Lib.hid hb
 have HRO := Lib.hid hR
 have HOO := Lib.hid hO
 have HAS := Lib.hid hA
 have HNS := Lib.hid hn
 have hgl : g < w.heap.size := hR.lt
 have HGU : Hid (w.heap.size ≠ g) := Lib.hid (by omega)
 have HB := Lib.hid ((Below.refl w.heap.size w).alloc (Nat.le_refl _) (.cells (upC u) UEf))
 have HU := Lib.hid (show RowAt (w.alloc (.cells (upC u) UEf)) w.heap.size UEf (upL u) from heap_alloc_new w _)
 have HC2 := Lib.hid (fun W (hh : RowAt W w.heap.size UEf (upL u)) => up_old hh)
 have HC34 := Lib.hid (fun W (hh : RowAt W w.heap.size UEf (upL u)) => up_new hu hh)
 obtain ⟨z1, hz1⟩ : ∃ z, decide (u.old = idZero) = z := ⟨_, rfl⟩
 obtain ⟨z2, hz2⟩ : ∃ z, decide (u.new = idZero) = z := ⟨_, rfl⟩
 have HZ1 := Lib.hid (fun W => zero_any u.old hu.2.1 z1 hz1 W)
 have HZ2 := Lib.hid (fun W => zero_any u.new hu.2.2 z2 hz2 W)
 obtain ⟨Z, hZ⟩ : ∃ Z, tagF r u = Z := ⟨_, rfl⟩
 have HZ : Hid ((if z1 = false ∧ z2 = false then (r, 1) else ({ r with tg := (moveF r.tg u).1 }, (moveF r.tg u).2)) = Z) := Lib.hid (by
  rw [← hZ, ← hz1, ← hz2]
  unfold tagF
  simp only [decide_eq_false_iff_not, ne_eq])
 rw [hZ]
 clear hR hO hA hu hgb hb hn hgl hz1 hz2 hZ
 cases z1
 ·cases z2
  ·go_enter Tryd.func75, Tryd.ntmps75
   have hZ : Z = (r, 1) := by rw [← HZ.out, if_pos ⟨rfl, rfl⟩]
   subst hZ
   go_wp2_with (first
    | ((with_reducible refine atS 6 ?_); go_must (refine wl_load rfl _ rfl _ _ u.old HUO.out.2.1 rfl (HC2.out _ HU.out) ?_))
    | (go_at_call 58; (with_reducible refine (HZ1.out _).mono ?_); rintro e w1 ⟨rfl, hb1⟩; have HB1 := thn HB hb1; have HU1 := Lib.hid (HU.out.below hb1); clear hb1)
    | ((with_reducible refine atS 11 ?_); go_must (refine wl_load rfl _ rfl _ _ u.new HUO.out.2.2 rfl (HC34.out _ HU1.out) ?_))
    | (go_at_call 58; (with_reducible refine (HZ2.out _).mono ?_); rintro e w2 ⟨rfl, hb2⟩; have HB2 := thn HB1 hb2; have HU2 := Lib.hid (HU1.out.below hb2); clear hb2))
   go_ret
   exact ⟨rfl, fun h0 => absurd h0 (show ¬ (1 : Nat) = 0 by decide), HB2.out.mono HBW.out, Kept3.of HB2.out⟩
  ·go_enter Tryd.func75, Tryd.ntmps75
   go_wp2_with (first
    | ((with_reducible refine atS 6 ?_); go_must (refine wl_load rfl _ rfl _ _ u.old HUO.out.2.1 rfl (HC2.out _ HU.out) ?_))
    | (go_at_call 58; (with_reducible refine (HZ1.out _).mono ?_); rintro e w1 ⟨rfl, hb1⟩; have HB1 := thn HB hb1; have HU1 := Lib.hid (HU.out.below hb1); clear hb1)
    | ((with_reducible refine atS 11 ?_); go_must (refine wl_load rfl _ rfl _ _ u.new HUO.out.2.2 rfl (HC34.out _ HU1.out) ?_))
    | (go_at_call 58; (with_reducible refine (HZ2.out _).mono ?_); rintro e w2 ⟨rfl, hb2⟩; have HB2 := thn HB1 hb2; have HU2 := Lib.hid (HU1.out.below hb2); clear hb2))
   have HF0 : Hid (Kept3 w w2.drew g S) := Lib.hid (Kept3.of HB2.out.drew)
   have HSZ0 : Hid (w.heap.size ≤ w2.drew.heap.size) := Lib.hid HB2.out.size
   have HB0 : Hid (Below base w w2.drew) := Lib.hid ((HB2.out.mono HBW.out).drew)
   have HR0 : Hid (RowAt w2.drew g REf (rfL S r.head r.at_)) := Lib.hid (HRO.out.below HB2.out.drew)
   have HU0 : Hid (RowAt w2.drew w.heap.size UEf (upL u)) := Lib.hid HU2.out
   have HUR : Hid (w2.drew.rangeAt w.heap.size 0 (upL u)) := Lib.hid (fun i v hv => by rw [Nat.zero_add]; exact HU0.out.cell i hv)
   have HOW := Lib.hid (HOO.out.below (w' := w2.drew) HB2.out.drew)
   obtain ⟨MV, hMV⟩ : ∃ MV, moveF r.tg u = MV := ⟨_, rfl⟩
   have HMV := Lib.hid (move_any S.ag S.ng S.cg base r.tg u w2.drew HOW.out.tg HAS.out HUO.out (Nat.le_trans HBW.out HB0.out.size) HNS.out)
   rw [hMV] at HMV
   have hZ : Z = ({ r with tg := MV.1 }, MV.2) := by rw [← HZ.out, if_neg (fun h => by cases h.2), hMV]
   subst hZ
   clear hMV
   go_cut [4] from 15 to 26 (fun v4 W => (∃ a' n' c', Hid (RowAt W g REf ((rfL S r.head r.at_).set 1 (.slice a' n' c'))) ∧ Hid (MV.2 = 0 → RfOwn W base { S with ag := a', ng := n', cg := c' } { r with tg := MV.1 })) ∧ Hid (RowAt W w.heap.size UEf (upL u)) ∧ Hid (Below base w W) ∧ Hid (base ≤ W.heap.size) ∧ Hid (Kept3 w W g S ∧ w.heap.size ≤ W.heap.size) ∧ v4 = .int .i64 (MV.2 : Nat))
   case first =>
    have c0 := HR0.out.cell 1 (v := .slice S.ag S.ng S.cg) rfl
    refine wp_region_held_drew (S := fun _ => True) (by kernel_rfl) trivial (fun hHeld => ?_)
    refine tk 0 (mo 16 (.move (.tmp 0))) (.pointer (some ⟨g, 0, none⟩)) rfl ?_
    refine tk 1 (mo 17 (.move (.tmp 0))) (.pointer (some ⟨g, 0, none⟩)) rfl ?_
    refine tk 2 (mo 18 (.nilCheck (.tmp 17))) (.pointer (some ⟨g, 0, none⟩)) rfl ?_
    refine tk 3 (mo 19 (.fieldAddr 35 (.tmp 18) 1)) (.pointer (some ⟨g, 1, none⟩)) rfl ?_
    refine rdH [4, 5] ?_
    refine AllReadyH.cons (o := ⟨some 20, .load 33 (.tmp 19), _, _, _, _⟩) rfl (fun K hK => ?_) (AllReadyH.cons (o := ⟨some 21, .load 48 (.tmp 3), _, _, _, _⟩) rfl (fun K hK => ?_) AllReadyH.nil)
    ·go_simp
     refine hK.out _ _ trivial (fun hHeld => ?_)
     clear hK K
     refine rdH [5] ?_
     refine AllReadyH.cons (o := ⟨some 21, .load 48 (.tmp 3), _, _, _, _⟩) rfl (fun K hK => ?_) AllReadyH.nil
     refine ready_step (wp_load_mid _ _ rfl w.heap.size 0 rfl (upL u) _ HUR.out Tryd.underlying48 rfl (size66 HUO.out) ?_)
     refine hK.out _ _ trivial (fun hHeld => ?_)
     clear hK K
     simp only [Act.put, List.setIfInBounds_toArray, List.set_cons_zero, List.set_cons_succ]
     refine rdH [6] ?_
     refine AllReadyH.cons (o := ⟨some 22, .call { callee := .value (.func 88), args := #[(.tmp 20), (.tmp 21)], argTypes := #[33, 48] }, _, _, _, _⟩) rfl (fun K hK => ?_) AllReadyH.nil
     go_simp
     refine HMV.out.mono ?_
     rintro e wm ⟨a', n', c', rfl, hok, hgm⟩
     have HRm := Lib.hid (HR0.out.grown hgm (row_ne HR0.out HOW.out.tg.1))
     have HUm := Lib.hid (HU0.out.grown hgm (row_ne HU0.out HOW.out.tg.1))
     have HBm := Lib.hid (HB0.out.grown hgm (Nat.le_trans HBW.out HB0.out.size) (fun q hq => (HOW.out.tg.lt q hq).1))
     have HFm := Lib.hid (HF0.out.grown HSZ0.out hgm (.inr (.inl rfl)))
     have HSm := Lib.hid (Nat.le_trans HSZ0.out hgm.size)
     have HOKm := Lib.hid hok
     have HGm := Lib.hid hgm
     clear hok hgm
     refine hK.out _ _ trivial (fun hHeld => ?_)
     clear hK K
     refine tk 7 (mo 15 (.move (.tmp 22))) (.tuple #[.slice a' n' c', .int .i64 (MV.2 : Nat)]) rfl ?_
     refine tk 8 (mo 23 (.extract (.tmp 15) 0)) (.slice a' n' c') rfl ?_
     refine tk 9 (mo 24 (.extract (.tmp 15) 1)) (.int .i64 (MV.2 : Nat)) rfl ?_
     refine tk 10 (mo 25 (.nilCheck (.tmp 16))) (.pointer (some ⟨g, 0, none⟩)) rfl ?_
     refine tk 11 (mo 26 (.fieldAddr 35 (.tmp 25) 1)) (.pointer (some ⟨g, 1, none⟩)) rfl ?_
     refine rdH [12] ?_
     refine AllReadyH.cons (o := ⟨none, .store 33 (.tmp 26) (.tmp 23), _, _, _, _⟩) rfl (fun K hK => ?_) AllReadyH.nil
     have hcell := HRm.out.cell 1 (v := .slice S.ag S.ng S.cg) rfl
     have hfz := HRm.out.free 1
     go_simp
     have HRS := Lib.hid (HRm.out.set 1 (.slice a' n' c'))
     have HUS := Lib.hid (HUm.out.other (a := ⟨g, 1, none⟩) HGU.out (.slice a' n' c'))
     have HBS := Lib.hid (HBm.out.setCell (p := ⟨g, 1, none⟩) HGB.out (.slice a' n' c'))
     have HFS := Lib.hid (And.intro (HFm.out.setCell 1 (.slice a' n' c')) HBS.out.size)
     have HKS := Lib.hid (fun h0 => putTg HOW.out HGm.out (HOKm.out h0).1 (HOKm.out h0).2 HRm.out)
     refine hK.out _ _ trivial (fun hHeld => ?_)
     clear hK K
     refine tk 13 (mo 4 (.assign (.tmp 24))) (.int .i64 (MV.2 : Nat)) rfl ?_
     refine wpAnyH_done (by kernel_rfl) ?_ _
     go_wp2_with fail
     go_meet
     exact ⟨⟨a', n', c', HRS, HKS⟩, HUS, HBS, Lib.hid (Nat.le_trans HBW.out HBS.out.size), HFS, rfl⟩
    ·refine ready_step (wp_load_mid _ _ rfl w.heap.size 0 rfl (upL u) _ HUR.out Tryd.underlying48 rfl (size66 HUO.out) ?_)
     refine hK.out _ _ trivial (fun hHeld => ?_)
     clear hK K
     simp only [Act.put, List.setIfInBounds_toArray, List.set_cons_zero, List.set_cons_succ]
     refine rdH [4] ?_
     refine AllReadyH.cons (o := ⟨some 20, .load 33 (.tmp 19), _, _, _, _⟩) rfl (fun K hK => ?_) AllReadyH.nil
     go_simp
     refine hK.out _ _ trivial (fun hHeld => ?_)
     clear hK K
     refine rdH [6] ?_
     refine AllReadyH.cons (o := ⟨some 22, .call { callee := .value (.func 88), args := #[(.tmp 20), (.tmp 21)], argTypes := #[33, 48] }, _, _, _, _⟩) rfl (fun K hK => ?_) AllReadyH.nil
     go_simp
     refine HMV.out.mono ?_
     rintro e wm ⟨a', n', c', rfl, hok, hgm⟩
     have HRm := Lib.hid (HR0.out.grown hgm (row_ne HR0.out HOW.out.tg.1))
     have HUm := Lib.hid (HU0.out.grown hgm (row_ne HU0.out HOW.out.tg.1))
     have HBm := Lib.hid (HB0.out.grown hgm (Nat.le_trans HBW.out HB0.out.size) (fun q hq => (HOW.out.tg.lt q hq).1))
     have HFm := Lib.hid (HF0.out.grown HSZ0.out hgm (.inr (.inl rfl)))
     have HSm := Lib.hid (Nat.le_trans HSZ0.out hgm.size)
     have HOKm := Lib.hid hok
     have HGm := Lib.hid hgm
     clear hok hgm
     refine hK.out _ _ trivial (fun hHeld => ?_)
     clear hK K
     refine tk 7 (mo 15 (.move (.tmp 22))) (.tuple #[.slice a' n' c', .int .i64 (MV.2 : Nat)]) rfl ?_
     refine tk 8 (mo 23 (.extract (.tmp 15) 0)) (.slice a' n' c') rfl ?_
     refine tk 9 (mo 24 (.extract (.tmp 15) 1)) (.int .i64 (MV.2 : Nat)) rfl ?_
     refine tk 10 (mo 25 (.nilCheck (.tmp 16))) (.pointer (some ⟨g, 0, none⟩)) rfl ?_
     refine tk 11 (mo 26 (.fieldAddr 35 (.tmp 25) 1)) (.pointer (some ⟨g, 1, none⟩)) rfl ?_
     refine rdH [12] ?_
     refine AllReadyH.cons (o := ⟨none, .store 33 (.tmp 26) (.tmp 23), _, _, _, _⟩) rfl (fun K hK => ?_) AllReadyH.nil
     have hcell := HRm.out.cell 1 (v := .slice S.ag S.ng S.cg) rfl
     have hfz := HRm.out.free 1
     go_simp
     have HRS := Lib.hid (HRm.out.set 1 (.slice a' n' c'))
     have HUS := Lib.hid (HUm.out.other (a := ⟨g, 1, none⟩) HGU.out (.slice a' n' c'))
     have HBS := Lib.hid (HBm.out.setCell (p := ⟨g, 1, none⟩) HGB.out (.slice a' n' c'))
     have HFS := Lib.hid (And.intro (HFm.out.setCell 1 (.slice a' n' c')) HBS.out.size)
     have HKS := Lib.hid (fun h0 => putTg HOW.out HGm.out (HOKm.out h0).1 (HOKm.out h0).2 HRm.out)
     refine hK.out _ _ trivial (fun hHeld => ?_)
     clear hK K
     refine tk 13 (mo 4 (.assign (.tmp 24))) (.int .i64 (MV.2 : Nat)) rfl ?_
     refine wpAnyH_done (by kernel_rfl) ?_ _
     go_wp2_with fail
     go_meet
     exact ⟨⟨a', n', c', HRS, HKS⟩, HUS, HBS, Lib.hid (Nat.le_trans HBW.out HBS.out.size), HFS, rfl⟩
   case rest =>
    obtain ⟨⟨a', n', c', HRS, HKS⟩, HUS, HBS, HBC, HFS, rfl⟩ := hcut
    go_wp2
    go_ret
    exact ⟨rfl, fun h0 => ⟨{ S with ag := a', ng := n', cg := c' }, HRS.out, HKS.out h0⟩, HBS.out, HFS.out.1⟩
 ·go_enter Tryd.func75, Tryd.ntmps75
  go_wp2_with (first
   | ((with_reducible refine atS 6 ?_); go_must (refine wl_load rfl _ rfl _ _ u.old HUO.out.2.1 rfl (HC2.out _ HU.out) ?_))
   | (go_at_call 58; (with_reducible refine (HZ1.out _).mono ?_); rintro e w1 ⟨rfl, hb1⟩; have HB1 := thn HB hb1; have HU1 := Lib.hid (HU.out.below hb1); clear hb1))
  have HF0 : Hid (Kept3 w w1.drew g S) := Lib.hid (Kept3.of HB1.out.drew)
  have HSZ0 : Hid (w.heap.size ≤ w1.drew.heap.size) := Lib.hid HB1.out.size
  have HB0 : Hid (Below base w w1.drew) := Lib.hid ((HB1.out.mono HBW.out).drew)
  have HR0 : Hid (RowAt w1.drew g REf (rfL S r.head r.at_)) := Lib.hid (HRO.out.below HB1.out.drew)
  have HU0 : Hid (RowAt w1.drew w.heap.size UEf (upL u)) := Lib.hid HU1.out
  have HUR : Hid (w1.drew.rangeAt w.heap.size 0 (upL u)) := Lib.hid (fun i v hv => by rw [Nat.zero_add]; exact HU0.out.cell i hv)
  have HOW := Lib.hid (HOO.out.below (w' := w1.drew) HB1.out.drew)
  obtain ⟨MV, hMV⟩ : ∃ MV, moveF r.tg u = MV := ⟨_, rfl⟩
  have HMV := Lib.hid (move_any S.ag S.ng S.cg base r.tg u w1.drew HOW.out.tg HAS.out HUO.out (Nat.le_trans HBW.out HB0.out.size) HNS.out)
  rw [hMV] at HMV
  have hZ : Z = ({ r with tg := MV.1 }, MV.2) := by rw [← HZ.out, if_neg (fun h => by cases h.1), hMV]
  subst hZ
  clear hMV
  go_cut [4] from 15 to 26 (fun v4 W => (∃ a' n' c', Hid (RowAt W g REf ((rfL S r.head r.at_).set 1 (.slice a' n' c'))) ∧ Hid (MV.2 = 0 → RfOwn W base { S with ag := a', ng := n', cg := c' } { r with tg := MV.1 })) ∧ Hid (RowAt W w.heap.size UEf (upL u)) ∧ Hid (Below base w W) ∧ Hid (base ≤ W.heap.size) ∧ Hid (Kept3 w W g S ∧ w.heap.size ≤ W.heap.size) ∧ v4 = .int .i64 (MV.2 : Nat))
  case first =>
   have c0 := HR0.out.cell 1 (v := .slice S.ag S.ng S.cg) rfl
   refine wp_region_held_drew (S := fun _ => True) (by kernel_rfl) trivial (fun hHeld => ?_)
   refine tk 0 (mo 16 (.move (.tmp 0))) (.pointer (some ⟨g, 0, none⟩)) rfl ?_
   refine tk 1 (mo 17 (.move (.tmp 0))) (.pointer (some ⟨g, 0, none⟩)) rfl ?_
   refine tk 2 (mo 18 (.nilCheck (.tmp 17))) (.pointer (some ⟨g, 0, none⟩)) rfl ?_
   refine tk 3 (mo 19 (.fieldAddr 35 (.tmp 18) 1)) (.pointer (some ⟨g, 1, none⟩)) rfl ?_
   refine rdH [4, 5] ?_
   refine AllReadyH.cons (o := ⟨some 20, .load 33 (.tmp 19), _, _, _, _⟩) rfl (fun K hK => ?_) (AllReadyH.cons (o := ⟨some 21, .load 48 (.tmp 3), _, _, _, _⟩) rfl (fun K hK => ?_) AllReadyH.nil)
   ·go_simp
    refine hK.out _ _ trivial (fun hHeld => ?_)
    clear hK K
    refine rdH [5] ?_
    refine AllReadyH.cons (o := ⟨some 21, .load 48 (.tmp 3), _, _, _, _⟩) rfl (fun K hK => ?_) AllReadyH.nil
    refine ready_step (wp_load_mid _ _ rfl w.heap.size 0 rfl (upL u) _ HUR.out Tryd.underlying48 rfl (size66 HUO.out) ?_)
    refine hK.out _ _ trivial (fun hHeld => ?_)
    clear hK K
    simp only [Act.put, List.setIfInBounds_toArray, List.set_cons_zero, List.set_cons_succ]
    refine rdH [6] ?_
    refine AllReadyH.cons (o := ⟨some 22, .call { callee := .value (.func 88), args := #[(.tmp 20), (.tmp 21)], argTypes := #[33, 48] }, _, _, _, _⟩) rfl (fun K hK => ?_) AllReadyH.nil
    go_simp
    refine HMV.out.mono ?_
    rintro e wm ⟨a', n', c', rfl, hok, hgm⟩
    have HRm := Lib.hid (HR0.out.grown hgm (row_ne HR0.out HOW.out.tg.1))
    have HUm := Lib.hid (HU0.out.grown hgm (row_ne HU0.out HOW.out.tg.1))
    have HBm := Lib.hid (HB0.out.grown hgm (Nat.le_trans HBW.out HB0.out.size) (fun q hq => (HOW.out.tg.lt q hq).1))
    have HFm := Lib.hid (HF0.out.grown HSZ0.out hgm (.inr (.inl rfl)))
    have HSm := Lib.hid (Nat.le_trans HSZ0.out hgm.size)
    have HOKm := Lib.hid hok
    have HGm := Lib.hid hgm
    clear hok hgm
    refine hK.out _ _ trivial (fun hHeld => ?_)
    clear hK K
    refine tk 7 (mo 15 (.move (.tmp 22))) (.tuple #[.slice a' n' c', .int .i64 (MV.2 : Nat)]) rfl ?_
    refine tk 8 (mo 23 (.extract (.tmp 15) 0)) (.slice a' n' c') rfl ?_
    refine tk 9 (mo 24 (.extract (.tmp 15) 1)) (.int .i64 (MV.2 : Nat)) rfl ?_
    refine tk 10 (mo 25 (.nilCheck (.tmp 16))) (.pointer (some ⟨g, 0, none⟩)) rfl ?_
    refine tk 11 (mo 26 (.fieldAddr 35 (.tmp 25) 1)) (.pointer (some ⟨g, 1, none⟩)) rfl ?_
    refine rdH [12] ?_
    refine AllReadyH.cons (o := ⟨none, .store 33 (.tmp 26) (.tmp 23), _, _, _, _⟩) rfl (fun K hK => ?_) AllReadyH.nil
    have hcell := HRm.out.cell 1 (v := .slice S.ag S.ng S.cg) rfl
    have hfz := HRm.out.free 1
    go_simp
    have HRS := Lib.hid (HRm.out.set 1 (.slice a' n' c'))
    have HUS := Lib.hid (HUm.out.other (a := ⟨g, 1, none⟩) HGU.out (.slice a' n' c'))
    have HBS := Lib.hid (HBm.out.setCell (p := ⟨g, 1, none⟩) HGB.out (.slice a' n' c'))
    have HFS := Lib.hid (And.intro (HFm.out.setCell 1 (.slice a' n' c')) HBS.out.size)
    have HKS := Lib.hid (fun h0 => putTg HOW.out HGm.out (HOKm.out h0).1 (HOKm.out h0).2 HRm.out)
    refine hK.out _ _ trivial (fun hHeld => ?_)
    clear hK K
    refine tk 13 (mo 4 (.assign (.tmp 24))) (.int .i64 (MV.2 : Nat)) rfl ?_
    refine wpAnyH_done (by kernel_rfl) ?_ _
    go_wp2_with fail
    go_meet
    exact ⟨⟨a', n', c', HRS, HKS⟩, HUS, HBS, Lib.hid (Nat.le_trans HBW.out HBS.out.size), HFS, rfl⟩
   ·refine ready_step (wp_load_mid _ _ rfl w.heap.size 0 rfl (upL u) _ HUR.out Tryd.underlying48 rfl (size66 HUO.out) ?_)
    refine hK.out _ _ trivial (fun hHeld => ?_)
    clear hK K
    simp only [Act.put, List.setIfInBounds_toArray, List.set_cons_zero, List.set_cons_succ]
    refine rdH [4] ?_
    refine AllReadyH.cons (o := ⟨some 20, .load 33 (.tmp 19), _, _, _, _⟩) rfl (fun K hK => ?_) AllReadyH.nil
    go_simp
    refine hK.out _ _ trivial (fun hHeld => ?_)
    clear hK K
    refine rdH [6] ?_
    refine AllReadyH.cons (o := ⟨some 22, .call { callee := .value (.func 88), args := #[(.tmp 20), (.tmp 21)], argTypes := #[33, 48] }, _, _, _, _⟩) rfl (fun K hK => ?_) AllReadyH.nil
    go_simp
    refine HMV.out.mono ?_
    rintro e wm ⟨a', n', c', rfl, hok, hgm⟩
    have HRm := Lib.hid (HR0.out.grown hgm (row_ne HR0.out HOW.out.tg.1))
    have HUm := Lib.hid (HU0.out.grown hgm (row_ne HU0.out HOW.out.tg.1))
    have HBm := Lib.hid (HB0.out.grown hgm (Nat.le_trans HBW.out HB0.out.size) (fun q hq => (HOW.out.tg.lt q hq).1))
    have HFm := Lib.hid (HF0.out.grown HSZ0.out hgm (.inr (.inl rfl)))
    have HSm := Lib.hid (Nat.le_trans HSZ0.out hgm.size)
    have HOKm := Lib.hid hok
    have HGm := Lib.hid hgm
    clear hok hgm
    refine hK.out _ _ trivial (fun hHeld => ?_)
    clear hK K
    refine tk 7 (mo 15 (.move (.tmp 22))) (.tuple #[.slice a' n' c', .int .i64 (MV.2 : Nat)]) rfl ?_
    refine tk 8 (mo 23 (.extract (.tmp 15) 0)) (.slice a' n' c') rfl ?_
    refine tk 9 (mo 24 (.extract (.tmp 15) 1)) (.int .i64 (MV.2 : Nat)) rfl ?_
    refine tk 10 (mo 25 (.nilCheck (.tmp 16))) (.pointer (some ⟨g, 0, none⟩)) rfl ?_
    refine tk 11 (mo 26 (.fieldAddr 35 (.tmp 25) 1)) (.pointer (some ⟨g, 1, none⟩)) rfl ?_
    refine rdH [12] ?_
    refine AllReadyH.cons (o := ⟨none, .store 33 (.tmp 26) (.tmp 23), _, _, _, _⟩) rfl (fun K hK => ?_) AllReadyH.nil
    have hcell := HRm.out.cell 1 (v := .slice S.ag S.ng S.cg) rfl
    have hfz := HRm.out.free 1
    go_simp
    have HRS := Lib.hid (HRm.out.set 1 (.slice a' n' c'))
    have HUS := Lib.hid (HUm.out.other (a := ⟨g, 1, none⟩) HGU.out (.slice a' n' c'))
    have HBS := Lib.hid (HBm.out.setCell (p := ⟨g, 1, none⟩) HGB.out (.slice a' n' c'))
    have HFS := Lib.hid (And.intro (HFm.out.setCell 1 (.slice a' n' c')) HBS.out.size)
    have HKS := Lib.hid (fun h0 => putTg HOW.out HGm.out (HOKm.out h0).1 (HOKm.out h0).2 HRm.out)
    refine hK.out _ _ trivial (fun hHeld => ?_)
    clear hK K
    refine tk 13 (mo 4 (.assign (.tmp 24))) (.int .i64 (MV.2 : Nat)) rfl ?_
    refine wpAnyH_done (by kernel_rfl) ?_ _
    go_wp2_with fail
    go_meet
    exact ⟨⟨a', n', c', HRS, HKS⟩, HUS, HBS, Lib.hid (Nat.le_trans HBW.out HBS.out.size), HFS, rfl⟩
  case rest =>
   obtain ⟨⟨a', n', c', HRS, HKS⟩, HUS, HBS, HBC, HFS, rfl⟩ := hcut
   go_wp2
   go_ret
   exact ⟨rfl, fun h0 => ⟨{ S with ag := a', ng := n', cg := c' }, HRS.out, HKS.out h0⟩, HBS.out, HFS.out.1⟩
theorem putL_mid : ∀ (vs l m r : List Value), m.length = vs.length → putL (l ++ (m ++ r)) l.length vs = l ++ (vs ++ r)
 | [], l, m, r, h => by rw [List.eq_nil_of_length_eq_zero h]; rfl
 | v :: vs, l, [], r, h => by cases h
 | v :: vs, l, x :: m, r, h => by
  have e : (l ++ (x :: m ++ r)).set l.length v = (l ++ [v]) ++ (m ++ r) := by simp
  have := putL_mid vs (l ++ [v]) m r (by simpa using h)
  rw [putL, e]
  simp only [List.length_append, List.length_cons, List.length_nil, Nat.zero_add] at this
  rw [this]; simp
section
variable {w w' : World} {base g : Nat} {S : RfS} {r : RefsV}
theorem NEr (x : Hold) (hx : x ∈ [hG rnK NEf (.slice S.ab S.nb S.cb) r.br, hG rnK NEf (.slice S.ag S.ng S.cg) r.tg, hG enK EEf (.slice S.al S.nl S.cl) r.log]) : x.E ≠ REf := by
 simp only [List.mem_cons, List.not_mem_nil, or_false] at hx
 rcases hx with rfl | rfl | rfl <;> first | exact NErf | exact EErf
theorem rf_steps : ∀ (vs : List Value) (o : Nat) {w : World} {cs : List Value}, RowAt w g REf cs → RfOwn w base S r → RowAt (w.setCells g o vs) g REf (putL cs o vs) ∧ RfOwn (w.setCells g o vs) base S r
 | [], _, _, _, h, h' => ⟨h, h'⟩
 | v :: vs, o, _, _, h, h' => rf_steps vs (o + 1) (h.set o v) ⟨holds_setBox h'.holds h NEr o v, h'.okb, h'.okg, h'.okl, h'.at_⟩
theorem rf_cells_below : ∀ (vs : List Value) (o : Nat) {w1 : World}, base ≤ g → Below base w w1 → Below base w (w1.setCells g o vs)
 | [], _, _, _, h => h
 | _ :: vs, o, _, hg, h => rf_cells_below vs (o + 1) hg (h.setCell (p := ⟨g, o, none⟩) hg _)
theorem rf_cells_other {g' : Nat} {E : TypeId} {cs : List Value} (hne : g' ≠ g) : ∀ (vs : List Value) (o : Nat) {w1 : World}, RowAt w1 g' E cs → RowAt (w1.setCells g o vs) g' E cs
 | [], _, _, h => h
 | _ :: vs, o, _, h => rf_cells_other hne vs (o + 1) (h.other (a := ⟨g, o, none⟩) hne _)
theorem row_there {cs : List Value} (h : RowAt w g REf cs) (o n : Nat) (hn : o + n ≤ cs.length) : w.there g o n := fun j hj => ⟨by rw [h.cell (o + j) (List.getElem?_eq_getElem (by omega))]; rfl, h.free _⟩
theorem putL_hd (S : RfS) (h a m : List UInt8) (ha : a.length = 32) (hm : m.length = 32) : putL (rfL S h a) 3 (idCells m).toList = rfL S h m := by
 have := putL_mid (idCells m).toList [.slice S.ab S.nb S.cb, .slice S.ag S.ng S.cg, .string (strB h)] (a.map B) [.slice S.al S.nl S.cl] (by simp [idCells, ha, hm])
 simpa [rfL, idCells] using this
end
set_option maxRecDepth 100000 in
set_option maxHeartbeats 4000000 in
theorem headU_any (g base : Nat) (S : RfS) (r : RefsV) (u : UpdV) (w : World) (hR : RowAt w g REf (rfL S r.head r.at_)) (hO : RfOwn w base S r) (hu : UpOk u) (hgb : base ≤ g) (hb : base ≤ w.heap.size) :
  Calls Tryd.prog 76 #[.pointer (some ⟨g, 0, none⟩), .agg (upC u)] w (ActIs w base g S (headUF r u)) := by
 have HUO := Lib.hid hu
 have HGB := Lib.hid hgb
 have HBW := Lib.hid hb
 have HRO := Lib.hid hR
 have HOO := Lib.hid hO
 have hgl : g < w.heap.size := hR.lt
 have HGU : Hid (w.heap.size ≠ g) := Lib.hid (by omega)
 have HB := Lib.hid ((Below.refl w.heap.size w).alloc (Nat.le_refl _) (.cells (upC u) UEf))
 have HU := Lib.hid (show RowAt (w.alloc (.cells (upC u) UEf)) w.heap.size UEf (upL u) from heap_alloc_new w _)
 obtain ⟨z1, hz1⟩ : ∃ z, decide (u.old = idZero) = z := ⟨_, rfl⟩
 obtain ⟨z2, hz2⟩ : ∃ z, decide (u.new = idZero) = z := ⟨_, rfl⟩
 obtain ⟨m, hm⟩ : ∃ m, nameF u.name = m := ⟨_, rfl⟩
 obtain ⟨p, hp⟩ : ∃ p, strB u.name = p := ⟨_, rfl⟩
 obtain ⟨e, he⟩ : ∃ e, (p.toList == []) = e := ⟨_, rfl⟩
 have HEN : Hid (e = decide (u.name = [])) := Lib.hid (by
  rw [← he, ← hp, ByteArray.toList_eq, strB_list]
  cases u.name <;> simp)
 have HES := Lib.hid he
 have HPE := Lib.hid hp
 have HC1 := Lib.hid (fun W (hh : RowAt W w.heap.size UEf (upL u)) => (hp ▸ up_name hh : W.cell? ⟨w.heap.size, 1, none⟩ = some (.string p)))
 have HC2 := Lib.hid (fun W (hh : RowAt W w.heap.size UEf (upL u)) => up_old hh)
 have HC34 := Lib.hid (fun W (hh : RowAt W w.heap.size UEf (upL u)) => up_new hu hh)
 have HZ1 := Lib.hid (fun W => zero_any u.old hu.2.1 z1 hz1 W)
 have HZ2 := Lib.hid (fun W => zero_any u.new hu.2.2 z2 hz2 W)
 have HNM := Lib.hid (fun W => name_isP u.name p hp m hm W)
 obtain ⟨Z, hZ⟩ : ∃ Z, headUF r u = Z := ⟨_, rfl⟩
 have HZ : Hid ((if z1 = false ∨ (z2 == e) = true then (r, 1) else if e = false ∧ m = false then (r, 10) else ({ r with head := u.name, at_ := u.new }, 0)) = Z) := Lib.hid (by
  rw [← hZ, HEN.out, ← hz1, ← hz2, ← hm]
  unfold headUF
  simp only [decide_eq_false_iff_not, ne_eq, beq_iff_eq, decide_eq_decide])
 rw [hZ]
 clear hR hO hu hgb hb hgl hz1 hz2 hm hp he hZ
 cases z1
 ·go_enter Tryd.func76, Tryd.ntmps76
  have hZ : Z = (r, 1) := by rw [← HZ.out, if_pos (.inl rfl)]
  subst hZ
  go_wp2_with (first
   | ((with_reducible refine atS 7 ?_); go_must (refine wl_load rfl _ rfl _ _ u.old HUO.out.2.1 rfl (HC2.out _ HU.out) ?_))
   | (go_at_call 58; (with_reducible refine (HZ1.out _).mono ?_); rintro e1 w1 ⟨rfl, hb1⟩; have HB1 := thn HB hb1; have HU1 := Lib.hid (HU.out.below hb1); clear hb1))
  go_ret
  exact ⟨rfl, fun h0 => absurd h0 (show ¬ (1 : Nat) = 0 by decide), HB1.out.mono HBW.out, Kept3.of HB1.out⟩
 ·go_enter Tryd.func76, Tryd.ntmps76
  go_wp2_with (first
   | ((with_reducible refine atS 7 ?_); go_must (refine wl_load rfl _ rfl _ _ u.old HUO.out.2.1 rfl (HC2.out _ HU.out) ?_))
   | (go_at_call 58; (with_reducible refine (HZ1.out _).mono ?_); rintro e1 w1 ⟨rfl, hb1⟩; have HB1 := thn HB hb1; have HU1 := Lib.hid (HU.out.below hb1); clear hb1))
  have HBd : Hid (Below w1.heap.size w1 w1.drew) := Lib.hid (Below.refl _ _).drew
  have HC1b := Lib.hid (fun W (hW : Below w1.heap.size w1 W) => HC1.out W (HU1.out.below hW))
  have HC34b := Lib.hid (fun W (hW : Below w1.heap.size w1 W) => HC34.out W (HU1.out.below hW))
  refine wp_region_held_drew (S := fun W => Below w1.heap.size w1 W) (by kernel_rfl) HBd.out (fun hHeld => ?_)
  refine tk 0 (mo 10 (.fieldAddr 48 (.tmp 3) 3)) (.pointer (some ⟨w.heap.size, 34, none⟩)) rfl ?_
  refine tk 1 (mo 11 (.load 24 (.tmp 10))) (.agg (idCells u.new)) rfl ?_ (Or.inl ⟨by rfl, fun W hW => exec_loadId _ rfl _ _ u.new HUO.out.2.2 rfl (HC34b.out W hW)⟩)
  refine tk 3 (mo 13 (.fieldAddr 48 (.tmp 3) 1)) (.pointer (some ⟨w.heap.size, 1, none⟩)) rfl ?_
  refine tk 4 (mo 14 (.load 9 (.tmp 13))) (.string p) rfl ?_ (Or.inl ⟨by rfl, fun W hW => by have hcell := HC1b.out W hW; go_simp⟩)
  refine tk 5 (mo 15 (.binOp .eql 9 (.tmp 14) (.const (.string ⟨#[]⟩)) 9)) (.bool e) rfl ?_ (Or.inl ⟨by rfl, fun W hW => by have he := HES.out; go_simp⟩)
  refine rdH [2] ?_
  refine AllReadyH.cons (o := ⟨some 12, .call { callee := .value (.func 58), args := #[(.tmp 11)], argTypes := #[24] }, _, _, _, _⟩) rfl (fun K hK => ?_) AllReadyH.nil
  go_simp
  go_wp2_with (go_at_call 58; go_must (refine (HZ2.out _).mono ?_); rintro e7 w7 ⟨rfl, hb7⟩; have HX7 := thn HBd hb7; clear hb7)
  refine hK.out _ _ HX7.out (fun hHeld => ?_)
  clear hK K
  refine tk 6 (mo 16 (.binOp .eql 4 (.tmp 12) (.tmp 15) 4)) (.bool (z2 == e)) rfl ?_
  refine tk 7 (mo 5 (.assign (.tmp 16))) (.bool (z2 == e)) rfl ?_
  refine wpAnyH_done (by kernel_rfl) ?_ _
  have HB7 := Lib.hid (HB1.out.trans (HX7.out.mono HB1.out.size))
  have HU7 := Lib.hid (HU1.out.below HX7.out)
  have c1 := HC1.out _ HU7.out
  obtain ⟨t, ht⟩ : ∃ t, (z2 == e) = t := ⟨_, rfl⟩
  have HTE := Lib.hid ht
  rw [ht] at HZ ⊢
  clear ht
  cases t
  ·cases e
   ·cases m
    ·have hZ : Z = (r, 10) := by rw [← HZ.out, if_neg (by simp), if_pos ⟨rfl, rfl⟩]
     subst hZ
     have he := HES.out
     go_wp2_with (go_at_call 57; go_must (refine (HNM.out _).mono ?_); rintro e8 w8 ⟨rfl, hb8⟩; have HB8 := thn HB7 hb8; have HU8 := Lib.hid (HU7.out.below hb8); have c18 := HC1.out _ HU8.out; clear hb8)
     go_ret
     exact ⟨rfl, fun h0 => absurd h0 (show ¬ (10 : Nat) = 0 by decide), HB8.out.mono HBW.out, Kept3.of HB8.out⟩
    ·have hZ : Z = ({ r with head := u.name, at_ := u.new }, 0) := by rw [← HZ.out, if_neg (by simp), if_neg (by simp)]
     subst hZ
     have he := HES.out
     go_wp2_with (go_at_call 57; go_must (refine (HNM.out _).mono ?_); rintro e8 w8 ⟨rfl, hb8⟩; have HB8 := thn HB7 hb8; have HU8 := Lib.hid (HU7.out.below hb8); have c18 := HC1.out _ HU8.out; clear hb8)
     have HBh : Hid (Below base w w8) := Lib.hid (HB8.out.mono HBW.out)
     have HRh : Hid (RowAt w8 g REf (rfL S r.head r.at_)) := Lib.hid (HRO.out.below HB8.out)
     have HUh : Hid (RowAt w8 w.heap.size UEf (upL u)) := Lib.hid HU8.out
     have HFh : Hid (Kept3 w w8 g S) := Lib.hid (Kept3.of HB8.out)
     have HOh := Lib.hid (HOO.out.below (w' := w8) HB8.out)
     refine wp_region_held_drew (S := fun W => RowAt W w.heap.size UEf (upL u)) (by kernel_rfl) HUh.out (fun hHeld => ?_)
     refine tk 0 (mo 27 (.move (.tmp 0))) (.pointer (some ⟨g, 0, none⟩)) rfl ?_
     refine tk 1 (mo 28 (.move (.tmp 0))) (.pointer (some ⟨g, 0, none⟩)) rfl ?_
     refine tk 2 (mo 29 (.fieldAddr 48 (.tmp 3) 1)) (.pointer (some ⟨w.heap.size, 1, none⟩)) rfl ?_
     refine tk 3 (mo 30 (.load 9 (.tmp 29))) (.string p) rfl ?_ (Or.inl ⟨by rfl, fun W hW => by have hcell := HC1.out W hW; go_simp⟩)
     refine tk 4 (mo 31 (.fieldAddr 48 (.tmp 3) 3)) (.pointer (some ⟨w.heap.size, 34, none⟩)) rfl ?_
     refine tk 5 (mo 32 (.load 24 (.tmp 31))) (.agg (idCells u.new)) rfl ?_ (Or.inl ⟨by rfl, fun W hW => exec_loadId _ rfl _ _ u.new HUO.out.2.2 rfl (HC34.out W hW)⟩)
     refine tk 6 (mo 33 (.nilCheck (.tmp 27))) (.pointer (some ⟨g, 0, none⟩)) rfl ?_
     refine tk 7 (mo 34 (.fieldAddr 35 (.tmp 33) 2)) (.pointer (some ⟨g, 2, none⟩)) rfl ?_
     refine rdH [8] ?_
     refine AllReadyH.cons (o := ⟨none, .store 9 (.tmp 34) (.tmp 30), _, _, _, _⟩) rfl (fun K hK => ?_) AllReadyH.nil
     have hcell := HRh.out.cell 2 (v := .string (strB r.head)) rfl
     have hfz := HRh.out.free 2
     go_simp
     have HR9 : Hid (RowAt (w8.setCell ⟨g, 2, none⟩ (.string p)).drew g REf ((rfL S r.head r.at_).set 2 (.string p))) := Lib.hid (HRh.out.set 2 (.string p))
     have HO9 := Lib.hid (RfOwn.below (w' := (w8.setCell ⟨g, 2, none⟩ (.string p)).drew) (⟨holds_setBox HOh.out.holds HRh.out NEr 2 (.string p), HOh.out.okb, HOh.out.okg, HOh.out.okl, HOh.out.at_⟩ : RfOwn (w8.setCell ⟨g, 2, none⟩ (.string p)) base S r) (Below.drew (Below.refl _ _)))
     have HU9 : Hid (RowAt (w8.setCell ⟨g, 2, none⟩ (.string p)).drew w.heap.size UEf (upL u)) := Lib.hid (HUh.out.other (a := ⟨g, 2, none⟩) HGU.out (.string p))
     have HB9 := Lib.hid ((HBh.out.setCell (p := ⟨g, 2, none⟩) HGB.out (.string p)).drew)
     have HF9 : Hid (Kept3 w (w8.setCell ⟨g, 2, none⟩ (.string p)).drew g S) := Lib.hid (HFh.out.setCell 2 (.string p)).drew
     generalize (w8.setCell ⟨g, 2, none⟩ (.string p)).drew = w9 at HF9 HR9 HO9 HU9 HB9 ⊢
     refine hK.out _ _ HU9.out (fun hHeld => ?_)
     clear hK K
     have HR9b : Hid (RowAt w9 g REf (rfL S u.name r.at_)) := Lib.hid (by have := HR9.out; rw [← HPE.out] at this; exact this)
     refine tk 9 (mo 35 (.nilCheck (.tmp 28))) (.pointer (some ⟨g, 0, none⟩)) rfl ?_
     refine tk 10 (mo 36 (.fieldAddr 35 (.tmp 35) 3)) (.pointer (some ⟨g, 3, none⟩)) rfl ?_
     refine rdH [11] ?_
     refine AllReadyH.cons (o := ⟨none, .store 24 (.tmp 36) (.tmp 32), _, _, _, _⟩) rfl (fun K hK => ?_) AllReadyH.nil
     refine ready_step (wp_store_mid _ _ _ rfl g 3 (idCells u.new) rfl rfl (row_there HR9b.out 3 _ (by rw [idCells_size HUO.out.2.2, rfL_len HOh.out.at_]; decide)) (by rw [idCells_size HUO.out.2.2]; exact info_id) (by unfold idCells; exact all_oneCell_toArray (B_one _)) ?_)
     obtain ⟨h1, h2⟩ := rf_steps (base := base) (S := S) (r := r) (idCells u.new).toList 3 HR9b.out HO9.out
     rw [putL_hd S u.name r.at_ u.new HOh.out.at_ HUO.out.2.2] at h1
     have HRz := Lib.hid h1
     have HOz := Lib.hid h2
     have HBz := Lib.hid (rf_cells_below (idCells u.new).toList 3 HGB.out HB9.out)
     have HUz := Lib.hid (rf_cells_other HGU.out (idCells u.new).toList 3 HU9.out)
     have HFz := Lib.hid (HF9.out.setCells (idCells u.new).toList 3)
     clear h1 h2
     generalize w9.setCells g 3 (idCells u.new).toList = wz at HFz HRz HOz HBz HUz ⊢
     refine hK.out _ _ HUz.out (fun hHeld => ?_)
     clear hK K
     refine wpAnyH_done (by kernel_rfl) ?_ _
     go_wp2_with fail
     go_ret
     exact ⟨rfl, fun _ => ⟨S, HRz.out, ⟨HOz.out.holds, HOz.out.okb, HOz.out.okg, HOz.out.okl, HUO.out.2.2⟩⟩, HBz.out, HFz.out⟩
   ·have hZ : Z = ({ r with head := u.name, at_ := u.new }, 0) := by rw [← HZ.out, if_neg (by simp), if_neg (by simp)]
    subst hZ
    have he := HES.out
    go_wp2
    have HBh : Hid (Below base w w7) := Lib.hid (HB7.out.mono HBW.out)
    have HRh : Hid (RowAt w7 g REf (rfL S r.head r.at_)) := Lib.hid (HRO.out.below HB7.out)
    have HUh : Hid (RowAt w7 w.heap.size UEf (upL u)) := Lib.hid HU7.out
    have HFh : Hid (Kept3 w w7 g S) := Lib.hid (Kept3.of HB7.out)
    have HOh := Lib.hid (HOO.out.below (w' := w7) HB7.out)
    refine wp_region_held_drew (S := fun W => RowAt W w.heap.size UEf (upL u)) (by kernel_rfl) HUh.out (fun hHeld => ?_)
    refine tk 0 (mo 27 (.move (.tmp 0))) (.pointer (some ⟨g, 0, none⟩)) rfl ?_
    refine tk 1 (mo 28 (.move (.tmp 0))) (.pointer (some ⟨g, 0, none⟩)) rfl ?_
    refine tk 2 (mo 29 (.fieldAddr 48 (.tmp 3) 1)) (.pointer (some ⟨w.heap.size, 1, none⟩)) rfl ?_
    refine tk 3 (mo 30 (.load 9 (.tmp 29))) (.string p) rfl ?_ (Or.inl ⟨by rfl, fun W hW => by have hcell := HC1.out W hW; go_simp⟩)
    refine tk 4 (mo 31 (.fieldAddr 48 (.tmp 3) 3)) (.pointer (some ⟨w.heap.size, 34, none⟩)) rfl ?_
    refine tk 5 (mo 32 (.load 24 (.tmp 31))) (.agg (idCells u.new)) rfl ?_ (Or.inl ⟨by rfl, fun W hW => exec_loadId _ rfl _ _ u.new HUO.out.2.2 rfl (HC34.out W hW)⟩)
    refine tk 6 (mo 33 (.nilCheck (.tmp 27))) (.pointer (some ⟨g, 0, none⟩)) rfl ?_
    refine tk 7 (mo 34 (.fieldAddr 35 (.tmp 33) 2)) (.pointer (some ⟨g, 2, none⟩)) rfl ?_
    refine rdH [8] ?_
    refine AllReadyH.cons (o := ⟨none, .store 9 (.tmp 34) (.tmp 30), _, _, _, _⟩) rfl (fun K hK => ?_) AllReadyH.nil
    have hcell := HRh.out.cell 2 (v := .string (strB r.head)) rfl
    have hfz := HRh.out.free 2
    go_simp
    have HR9 : Hid (RowAt (w7.setCell ⟨g, 2, none⟩ (.string p)).drew g REf ((rfL S r.head r.at_).set 2 (.string p))) := Lib.hid (HRh.out.set 2 (.string p))
    have HO9 := Lib.hid (RfOwn.below (w' := (w7.setCell ⟨g, 2, none⟩ (.string p)).drew) (⟨holds_setBox HOh.out.holds HRh.out NEr 2 (.string p), HOh.out.okb, HOh.out.okg, HOh.out.okl, HOh.out.at_⟩ : RfOwn (w7.setCell ⟨g, 2, none⟩ (.string p)) base S r) (Below.drew (Below.refl _ _)))
    have HU9 : Hid (RowAt (w7.setCell ⟨g, 2, none⟩ (.string p)).drew w.heap.size UEf (upL u)) := Lib.hid (HUh.out.other (a := ⟨g, 2, none⟩) HGU.out (.string p))
    have HB9 := Lib.hid ((HBh.out.setCell (p := ⟨g, 2, none⟩) HGB.out (.string p)).drew)
    have HF9 : Hid (Kept3 w (w7.setCell ⟨g, 2, none⟩ (.string p)).drew g S) := Lib.hid (HFh.out.setCell 2 (.string p)).drew
    generalize (w7.setCell ⟨g, 2, none⟩ (.string p)).drew = w9 at HF9 HR9 HO9 HU9 HB9 ⊢
    refine hK.out _ _ HU9.out (fun hHeld => ?_)
    clear hK K
    have HR9b : Hid (RowAt w9 g REf (rfL S u.name r.at_)) := Lib.hid (by have := HR9.out; rw [← HPE.out] at this; exact this)
    refine tk 9 (mo 35 (.nilCheck (.tmp 28))) (.pointer (some ⟨g, 0, none⟩)) rfl ?_
    refine tk 10 (mo 36 (.fieldAddr 35 (.tmp 35) 3)) (.pointer (some ⟨g, 3, none⟩)) rfl ?_
    refine rdH [11] ?_
    refine AllReadyH.cons (o := ⟨none, .store 24 (.tmp 36) (.tmp 32), _, _, _, _⟩) rfl (fun K hK => ?_) AllReadyH.nil
    refine ready_step (wp_store_mid _ _ _ rfl g 3 (idCells u.new) rfl rfl (row_there HR9b.out 3 _ (by rw [idCells_size HUO.out.2.2, rfL_len HOh.out.at_]; decide)) (by rw [idCells_size HUO.out.2.2]; exact info_id) (by unfold idCells; exact all_oneCell_toArray (B_one _)) ?_)
    obtain ⟨h1, h2⟩ := rf_steps (base := base) (S := S) (r := r) (idCells u.new).toList 3 HR9b.out HO9.out
    rw [putL_hd S u.name r.at_ u.new HOh.out.at_ HUO.out.2.2] at h1
    have HRz := Lib.hid h1
    have HOz := Lib.hid h2
    have HBz := Lib.hid (rf_cells_below (idCells u.new).toList 3 HGB.out HB9.out)
    have HUz := Lib.hid (rf_cells_other HGU.out (idCells u.new).toList 3 HU9.out)
    have HFz := Lib.hid (HF9.out.setCells (idCells u.new).toList 3)
    clear h1 h2
    generalize w9.setCells g 3 (idCells u.new).toList = wz at HFz HRz HOz HBz HUz ⊢
    refine hK.out _ _ HUz.out (fun hHeld => ?_)
    clear hK K
    refine wpAnyH_done (by kernel_rfl) ?_ _
    go_wp2_with fail
    go_ret
    exact ⟨rfl, fun _ => ⟨S, HRz.out, ⟨HOz.out.holds, HOz.out.okb, HOz.out.okg, HOz.out.okl, HUO.out.2.2⟩⟩, HBz.out, HFz.out⟩
  ·have hZ : Z = (r, 1) := by rw [← HZ.out, if_pos (.inr rfl)]
   subst hZ
   go_wp2
   go_ret
   exact ⟨rfl, fun h0 => absurd h0 (show ¬ (1 : Nat) = 0 by decide), HB7.out.mono HBW.out, Kept3.of HB7.out⟩
end Go.Proofs.YthihmlojdopmfaaDoor
