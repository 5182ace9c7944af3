/-
  Merged: RegFind, RegTold.
-/
import Derived.Test.YtipoielcmaegaaaGreatDoorRgPathAll
import Derived.Deep.RegionHeld
namespace Go.Proofs.YtipoielcmaegaaaGreatDoor
open Go.RowKit Go.Maps

/-- A block of one struct. -/
def BlkAt (E : TypeId) (w : World) (g : Nat) (vs : List Value) : Prop := w.heap[g]? = some (.cells vs.toArray E (0, 0))
section
variable {E : TypeId} {w w' : World} {g : Nat} {vs : List Value}
theorem BlkAt.lt (h : BlkAt E w g vs) : g < w.heap.size := by
  rcases Nat.lt_or_ge g w.heap.size with h' | h'
  · exact h'
  · unfold BlkAt at h
    rw [Array.getElem?_eq_none h'] at h; cases h
theorem BlkAt.below (h : BlkAt E w g vs) (hb : Below w.heap.size w w') : BlkAt E w' g vs := by
  have := hb.block g h.lt
  unfold BlkAt at *
  rw [this]; exact h
theorem BlkAt.kept {row : Option Nat} (h : BlkAt E w g vs) (hg : w.grownBy w' row) (hne : some g ≠ row) : BlkAt E w' g vs := by
  have := hg.block g h.lt hne
  unfold BlkAt at *
  rw [this]; exact h
theorem BlkAt.cell (h : BlkAt E w g vs) (i : Nat) (v : Value) (hv : vs[i]? = some v) : w.cell? ⟨g, i, none⟩ = some v := by
  rw [cell_of_row w g i vs.toArray E (0, 0) h]
  simpa using hv
theorem BlkAt.range (h : BlkAt E w g vs) : w.rangeAt g 0 vs := fun i v hv => by rw [Nat.zero_add]; exact h.cell i v hv
theorem BlkAt.new (w : World) (E : TypeId) (cs : Array Value) : BlkAt E (w.alloc (.cells cs E)) w.heap.size cs.toList := by
  unfold BlkAt
  rw [heap_alloc_new]
end
/-- Behind a block that was made. -/
theorem alloc_split {w w1 : World} {E : TypeId} {cs : Array Value} {k : Nat} (hs : cs.size = k) (hb : Below (w.alloc (.cells cs E)).heap.size (w.alloc (.cells cs E)) w1) : ∃ us, us.length = k ∧ BlkAt E w1 w.heap.size us ∧ Below w.heap.size w w1 :=
  ⟨cs.toList, by simpa using hs, (BlkAt.new w E cs).below hb, ((Below.refl w.heap.size w).alloc (Nat.le_refl _) _).trans (hb.mono (size_alloc_le _ _))⟩
/-- A struct stored into a block of such. -/
theorem store_blk {E : TypeId} {w : World} {g : Nat} {us vs : List Value} (h : BlkAt E w g us) (hk : (Tryz.prog.info? E).map (·.size) = some vs.length) (hl : us.length = vs.length) (h1 : ∀ v ∈ vs, v.oneCell' = true) {ops : Array Oper} {rest : List Oper} {o : Oper} {a : Act} {Q : Exit → Act → World → Prop} (hgd : o.guard = none) (x y : Operand) (ho : o.op = .store E x y)
    (hx : a.eval x = .pointer (some ⟨g, 0, none⟩)) (hy : a.eval y = .agg vs.toArray)
    (hK : ∀ W, BlkAt E W g vs → w.grownBy W (some g) → wpList Tryz.prog ops Q rest (a.put o.dst undef) W) : wpList Tryz.prog ops Q (o :: rest) a w := by
  have hs : vs.toArray.size = vs.length := by simp
  refine wpList_store_row hgd E x y ho g vs.toArray hx hy E us.toArray h (by rw [hs]; exact hk) (by simp [hl]) ?_ (hK _ (setRow_heap _ _ us.toArray vs.toArray _ _ h) ?_)
  · rw [Array.all_eq_true_iff_forall_mem]
    intro v hv
    exact h1 v (by simpa using hv)
  · refine ⟨rfl, rfl, rfl, by simp [World.setRow], fun k hk hne => ?_⟩
    unfold World.setRow
    rw [Array.getElem?_modify, if_neg (fun e => hne (by rw [e]))]
/-- A struct and a truth, handed back. -/
theorem results_blk2 {E : TypeId} {vs : List Value} {w : World} {g : Nat} (hr : (loadVar E ⟨g, 0, none⟩).run Tryz.prog w = .ok (.agg vs.toArray) w) {fn : Func} {p t : Tmp} (h : fn.results = #[.cell p E, .tmp t]) (tmps : Array Value)
    (hp : tmps.getD p undef = .pointer (some ⟨g, 0, none⟩)) :
    (results fn tmps).run Tryz.prog w = .ok (.tuple #[.agg vs.toArray, tmps.getD t undef]) w := by
  have hp' : tmps[p]?.getD undef = .pointer (some ⟨g, 0, none⟩) := by simpa using hp
  simp [results, h, hp', asAddr, hr]
theorem info34 : (Tryz.prog.info? 35).map (·.size) = some 34 := by kernel_rfl
theorem info35 : (Tryz.prog.info? NEr).map (·.size) = some 35 := by kernel_rfl
theorem keyL_one (k : KeyV) : ∀ v ∈ keyL k, v.oneCell' = true := fun v hv => by
  unfold keyL at hv
  simp only [List.mem_cons, List.mem_append, List.mem_map, List.not_mem_nil, or_false] at hv
  rcases hv with rfl | ⟨b, _, rfl⟩ | rfl <;> rfl
theorem exec_loadNamed {w : World} {o : Oper} {a : Act} (x : Operand) (ho : o.op = .load NEr x) (b off : Nat) (X : NamedV) (hX : X.1.c.length = 32) (hx : a.eval x = .pointer (some ⟨b, off, none⟩)) (hc : w.rangeAt b off (nmL X)) :
    (execOp a.eval o).run Tryz.prog w = .ok (.value (.agg (nmC X))) w := by
  have hr := run_loadVar_mid (P := Tryz.prog) w b off NEr (nmL X) _ hc Tryz.underlying37 rfl (by rw [nmL_len hX]; exact info35)
  unfold execOp
  simp only [ho, hx, Instr.loadAt, Instr.sureAddr, Sem.run_bind, Sem.run_pure, Result.andThen_ok, hr]
  rfl
/-- .. a document with its path. -/
theorem store_named {w : World} {cs : Array Value} (hcs : cs.size = 35) {ops : Array Oper} {rest : List Oper} {o : Oper} {a : Act} {Q : Exit → Act → World → Prop} (hgd : o.guard = none) (x y : Operand) (ho : o.op = .store NEr x y) (X : NamedV) (hX : X.1.c.length = 32)
    (hx : a.eval x = .pointer (some ⟨w.heap.size, 0, none⟩)) (hy : a.eval y = .agg (nmC X))
    (h : ∀ W, BlkAt NEr W w.heap.size (nmL X) → Below w.heap.size w W → W.heap.size = w.heap.size + 1 → wpList Tryz.prog ops Q rest (a.put o.dst undef) W) : wpList Tryz.prog ops Q (o :: rest) a (w.alloc (.cells cs NEr)) :=
  store_newV (vs := nmL X) (by rw [nmL_len hX]; exact info35) (nmL_one X) (by rw [nmL_len hX, hcs]) hgd x y ho hx hy (fun W h1 h2 h3 => h W h1 h2 h3)
theorem nm_blk_path {W : World} {g : Nat} {x : NamedV} (h : BlkAt NEr W g (nmL x)) (hx : x.1.c.length = 32) : W.cell? ⟨g, 34, none⟩ = some (.string (strB x.2)) := by
  refine h.cell 34 _ ?_
  have h1 := keyL_length hx
  unfold nmL
  rw [List.getElem?_append_right (by omega), h1]; rfl
theorem nm_blk_key {W : World} {g : Nat} {x : NamedV} (h : BlkAt NEr W g (nmL x)) : W.rangeAt g 0 (keyL x.1) := fun i v hv => by
  rw [Nat.zero_add]
  refine h.cell i v ?_
  unfold nmL
  rw [List.getElem?_append_left (List.getElem?_eq_some_iff.1 hv).1]
  exact hv
theorem str_eq (x : List UInt8) (s : ByteArray) : ((strB x).toList == s.toList) = decide (x = s.data.toList) := by
  rw [Lib.toList_data, Lib.toList_data, strB_list]
  by_cases h : x = s.data.toList
  · rw [h]; simp
  · rw [decide_eq_false h]; exact beq_false_of_ne h
def zeroK : KeyV := ⟨0, zeroId, 0⟩
theorem built_zeroKey : Tryz.prog.built 35 [] = some (keyC zeroK) := by kernel_rfl
theorem exec_zeroKey {w : World} {o : Oper} {a : Act} (ho : o.op = .build 35 #[]) : (execOp a.eval o).run Tryz.prog w = .ok (.value (.agg (keyC zeroK))) w := by
  refine exec_build _ _ ho _ ?_
  simpa using built_zeroKey
/-- Which document has a path: the first one, of those that are told. -/
def FoundIs (L : List ClaimV) (s : List UInt8) (w : World) (e : Ending) (w' : World) : Prop := ∃ (S : List ClaimV) (P : List (List UInt8)) (k : KeyV) (q : Bool), e = .returned (.tuple #[.agg (keyC k), .bool q]) ∧ Shown L S ∧ PathsTo S P ∧ k.c.length = 32 ∧
  ((q = true ∧ ∃ i, i < S.length ∧ P.getD i default = s ∧ k = (S.getD i default).doc) ∨ (q = false ∧ k = zeroK ∧ ∀ i, i < S.length → P.getD i default ≠ s)) ∧ Below w.heap.size w w'

set_option maxRecDepth 100000 in
set_option maxHeartbeats 2000000 in
theorem find_any (a : Option Addr) (n c : Nat) (L : List ClaimV) (s : ByteArray) (w : World) (h : AtG clK w a n c L) (hn : n ≤ 60) (hl : ∀ c ∈ L, c.path.length ≤ 100000) (hT : PTabs w) :
    Calls Tryz.prog 13 #[.slice a n c, .string s] w (FoundIs L s.data.toList w) := by
  have HPC := Lib.hid (fun W (hW : Below w.heap.size w W) => paths_any a n c L W (h.below hW) hn hl (hT.below hW))
  have HM := Lib.hid hn
  have HL := Lib.hid h.1
  clear h hn hl hT
  go_enter Tryz.func13, Tryz.ntmps13
  go_wp2_with (go_at_call 6; go_must (refine (HPC.out _ ((Below.refl w.heap.size w).alloc (Nat.le_refl _) _)).mono ?_); rintro e w1 ⟨S, P, a1, c1, rfl, hsh, hp, hat, hb1⟩; have HS := Lib.hid hsh; have HP := Lib.hid hp; have HA := Lib.hid hat; obtain ⟨us, hul, hbk, hbl⟩ := alloc_split (k := 34) rfl hb1; have HBK := Lib.hid hbk; have HB1 := Lib.hid hbl; have HZL := Lib.hid hul; clear hsh hp hat hb1 hbk hbl hul)
  clear HPC
  obtain ⟨m, hm⟩ : ∃ m, S.length = m := ⟨_, rfl⟩
  rw [hm] at HA ⊢
  have HSL := Lib.hid hm
  have hmI : (m : Int) ≤ 60 := by have := HS.out.length; have := HL.out; have := HM.out; omega
  clear hm
  go_loopg [11] m (fun g v11 W => ∃ (i : Nat), v11 = .int .i64 i ∧ g + i = m ∧ Hid (Below w1.heap.size w1 W) ∧ Hid (∀ j, j < i → P.getD j default ≠ s.data.toList))
  case atStart => exact ⟨0, rfl, rfl, Lib.hid (Below.refl _ _), Lib.hid (fun j h => by omega)⟩
  case round =>
    obtain ⟨i, rfl, hg, HB, HN⟩ := hrel
    have HG := Lib.hid hg
    have hi0 : (0 : Int) ≤ (i : Int) := by omega
    have hiI : (i : Int) ≤ (m : Int) := by omega
    by_cases hi : (i : Int) < (m : Int)
    · have him : i < m := by omega
      have HI := Lib.hid him
      obtain ⟨b, o, rfl⟩ := HA.out.some_ (by omega)
      have HC := Lib.hid ((HA.out.below HB.out).at_ i him)
      obtain ⟨X, hX⟩ : ∃ X, X = gd (zipN S P) i := ⟨_, rfl⟩
      have HX : Hid (X.1.c.length = 32) := Lib.hid (hX ▸ HA.out.ok him)
      rw [← hX] at HC
      have hXE : X = ((S.getD i default).doc, P.getD i default) := by rw [hX]; exact zipN_at HP.out (by rw [HSL.out]; exact him)
      have HXE := Lib.hid hXE
      obtain ⟨p, hp⟩ : ∃ p, strB X.2 = p := ⟨_, rfl⟩
      have HPX := Lib.hid (fun W g (hA : BlkAt NEr W g (nmL X)) => (hp ▸ nm_blk_path hA HX.out : W.cell? ⟨g, 34, none⟩ = some (.string p)))
      have hpq : (p.toList == s.toList) = decide (P.getD i default = s.data.toList) := by
        rw [← hp, str_eq, hXE]
      by_cases he : P.getD i default = s.data.toList
      · have d1 : (p.toList == s.toList) = true := by rw [hpq]; exact decide_eq_true he
        have HE := Lib.hid he
        clear hg hX hXE hp hpq he
        go_wp2_with (first
          | ((with_reducible show wpList _ _ _ (⟨some 14, _, _, _, _, _⟩ :: _) _ _); go_must (refine wl_ex rfl (exec_loadNamed _ rfl _ _ X HX.out rfl HC.out) ?_))
          | ((with_reducible show wpList _ _ _ (⟨_, Op.store _ (.tmp 7) _, _, _, _, _⟩ :: _) _ _); go_must (refine store_named rfl rfl _ _ rfl X HX.out rfl rfl ?_); intro W2 hnd hb2 hs2; have HB2 := Lib.hid (HB.out.trans (hb2.mono HB.out.size)); have cp := HPX.out _ _ hnd; have HND := Lib.hid hnd; clear hnd hb2 hs2)
          | ((with_reducible show wpList _ _ _ (⟨some 20, _, _, _, _, _⟩ :: _) _ _); go_must (refine wl_loadKey rfl _ rfl _ _ X.1 HX.out rfl (nm_blk_key HND.out) ?_))
          | ((with_reducible show wpList _ _ _ (⟨_, Op.store _ (.tmp 4) _, _, _, _, _⟩ :: _) _ _); go_must (refine store_blk (vs := keyL X.1) (HBK.out.below HB2.out) (by rw [keyL_length HX.out]; exact info34) (by rw [keyL_length HX.out]; exact HZL.out) (keyL_one _) rfl _ _ rfl rfl rfl ?_); intro W4 hk4 hg4))
        refine bodyPost_ret (results_blk2 (run_loadKey HX.out hk4.range) rfl _ rfl) rfl ?_
        refine ⟨S, P, X.1, true, rfl, HS.out, HP.out, HX.out, .inl ⟨rfl, i, by rw [HSL.out]; exact HI.out, HE.out, by rw [HXE.out]⟩, ?_⟩
        exact (HB1.out.trans (HB2.out.mono HB1.out.size)).grown hg4 (HB1.out.trans (HB2.out.mono HB1.out.size)).size (fun q hq => by cases hq; exact Nat.le_refl _)
      · have d1 : (p.toList == s.toList) = false := by rw [hpq]; exact decide_eq_false he
        have HE := Lib.hid he
        clear hg hX hXE hp hpq he
        go_wp2_with (first
          | ((with_reducible show wpList _ _ _ (⟨some 14, _, _, _, _, _⟩ :: _) _ _); go_must (refine wl_ex rfl (exec_loadNamed _ rfl _ _ X HX.out rfl HC.out) ?_))
          | ((with_reducible show wpList _ _ _ (⟨_, Op.store _ (.tmp 7) _, _, _, _, _⟩ :: _) _ _); go_must (refine store_named rfl rfl _ _ rfl X HX.out rfl rfl ?_); intro W2 hnd hb2 hs2; have HB2 := Lib.hid (HB.out.trans (hb2.mono HB.out.size)); have cp := HPX.out _ _ hnd; clear hnd hb2 hs2))
        go_roundg (m - (i + 1))
        case measure => have := HG.out; have := HI.out; omega
        case rel => exact ⟨i + 1, by go_num, by have := HI.out; omega, HB2, Lib.hid (fun j hj => by
          rcases Nat.lt_or_ge j i with h1 | h1
          · exact HN.out j h1
          · obtain rfl : j = i := by omega
            exact HE.out)⟩
    · have him : i = m := by omega
      subst him
      clear hg
      go_wp2_with (first
        | ((with_reducible show wpList _ _ _ (⟨some 22, _, _, _, _, _⟩ :: _) _ _); go_must (refine wl_ex rfl (exec_zeroKey rfl) ?_))
        | ((with_reducible show wpList _ _ _ (⟨_, Op.store _ (.tmp 4) _, _, _, _, _⟩ :: _) _ _); go_must (refine store_blk (vs := keyL zeroK) (HBK.out.below HB.out) (by rw [keyL_length (k := zeroK) rfl]; exact info34) (by rw [keyL_length (k := zeroK) rfl]; exact HZL.out) (keyL_one _) rfl _ _ rfl rfl rfl ?_); intro W4 hk4 hg4))
      refine bodyPost_ret (results_blk2 (run_loadKey (k := zeroK) rfl hk4.range) rfl _ rfl) rfl ?_
      refine ⟨S, P, zeroK, false, rfl, HS.out, HP.out, rfl, .inr ⟨rfl, rfl, by rw [HSL.out]; exact HN.out⟩, ?_⟩
      exact (HB1.out.trans (HB.out.mono HB1.out.size)).grown hg4 (HB1.out.trans (HB.out.mono HB1.out.size)).size (fun q hq => by cases hq; exact Nat.le_refl _)
#print axioms find_any
end Go.Proofs.YtipoielcmaegaaaGreatDoor

namespace Go.Proofs.YtipoielcmaegaaaGreatDoor
open Go.RowKit

theorem ready_step {P : Program} {o : Oper} {a : Act} {w : World} {K : Act → World → Prop} {Q : Exit → Act → World → Prop} (h : o.wp P a w K Q) : o.wp P a w K Q := h
theorem built_claim (x : ClaimV) (hx : x.key.c.length = 32 ∧ x.doc.c.length = 32) : Tryz.prog.built CEr [(0, .agg (keyC x.key)), (1, .agg (keyC x.doc)), (2, .int .u8 (x.kind : Int)), (3, .string (strB x.path))] = some (claimC x) := by
  obtain ⟨⟨t, c, i⟩, ⟨t2, c2, i2⟩, n, p⟩ := x
  obtain ⟨b0, b1, b2, b3, b4, b5, b6, b7, b8, b9, b10, b11, b12, b13, b14, b15, b16, b17, b18, b19, b20, b21, b22, b23, b24, b25, b26, b27, b28, b29, b30, b31, rfl⟩ := list32 hx.1
  obtain ⟨e0, e1, e2, e3, e4, e5, e6, e7, e8, e9, e10, e11, e12, e13, e14, e15, e16, e17, e18, e19, e20, e21, e22, e23, e24, e25, e26, e27, e28, e29, e30, e31, rfl⟩ := list32 hx.2
  kernel_rfl
theorem exec_claim {w : World} {o : Oper} {a : Act} (x0 x1 x2 x3 : Operand) (ho : o.op = .build CEr #[(0, x0), (1, x1), (2, x2), (3, x3)]) (x : ClaimV) (hx : x.key.c.length = 32 ∧ x.doc.c.length = 32)
    (h0 : a.eval x0 = .agg (keyC x.key)) (h1 : a.eval x1 = .agg (keyC x.doc)) (h2 : a.eval x2 = .int .u8 (x.kind : Int)) (h3 : a.eval x3 = .string (strB x.path)) : (execOp a.eval o).run Tryz.prog w = .ok (.value (.agg (claimC x))) w := by
  refine exec_build _ _ ho _ ?_
  have e : (#[(0, x0), (1, x1), (2, x2), (3, x3)].map fun (q : Nat × Operand) => (q.1, a.eval q.2)).toList = [(0, .agg (keyC x.key)), (1, .agg (keyC x.doc)), (2, .int .u8 (x.kind : Int)), (3, .string (strB x.path))] := by simp [h0, h1, h2, h3]
  exact (congrArg _ e).trans (built_claim x hx)

/-- A slice of claims made anew; what was there stands. -/
def ToldIs (L : List ClaimV) (w : World) (e : Ending) (w' : World) : Prop := ∃ a c, e = .returned (.slice a L.length c) ∧ OwnG clK CEr w' w.heap.size (.slice a L.length c) L ∧ Below w.heap.size w w'

set_option maxRecDepth 100000 in
set_option maxHeartbeats 2000000 in
theorem told_any (a : Option Addr) (n c : Nat) (L : List ClaimV) (w : World) (h : AtG clK w a n c L) (hn : n ≤ 1000) :
    Calls Tryz.prog 7 #[.slice a n c] w (ToldIs L w) := by
  have HL := Lib.hid h.1
  have HN := Lib.hid h
  have hnI : (n : Int) ≤ 1000 := by omega
  have HM := Lib.hid hn
  clear h hn
  go_enter Tryz.func7, Tryz.ntmps7
  go_wp2
  go_loopg [3, 4] n (fun g v3 v4 W => ∃ j : Nat, Below w.heap.size w W ∧ v4 = .int .i64 j ∧ g + j = n ∧ ∃ a' c', v3 = .slice a' j c' ∧ Hid (OwnG clK CEr W w.heap.size (.slice a' j c') (L.take j)))
  case atStart => exact ⟨0, Below.refl _ _, rfl, rfl, none, 0, rfl, Lib.hid OwnG.nil⟩
  case round =>
    obtain ⟨j, hbw, rfl, hg, a', c', rfl, HO⟩ := hrel
    have HG := Lib.hid hg
    have HB := Lib.hid hbw
    have hj0 : (0 : Int) ≤ (j : Int) := by omega
    have hjI : (j : Int) ≤ (n : Int) := by omega
    by_cases hj : (j : Int) < (n : Int)
    · have hjn : j < n := by omega
      obtain ⟨b, o, rfl⟩ := HN.out.some_ (by omega)
      have HJ := Lib.hid hjn
      have HX := Lib.hid (HN.out.ok hjn : ClOk (gd L j))
      have HT := Lib.hid (gd_take (L := L) (j := j) (by rw [HL.out]; exact hjn))
      have HK := Lib.hid (fun W (hW : Below w.heap.size w W) => cl_key (HN.out.below hW) hjn)
      have HD := Lib.hid (fun W (hW : Below w.heap.size w W) => cl_doc (HN.out.below hW) hjn)
      have HKD := Lib.hid (fun W (hW : Below w.heap.size w W) => cl_kind (HN.out.below hW) hjn)
      have HP := Lib.hid (fun W (hW : Below w.heap.size w W) => cl_path (HN.out.below hW) hjn)
      obtain ⟨X, hX⟩ : ∃ X, X = gd L j := ⟨_, rfl⟩
      rw [← hX] at HX HT HK HD HKD HP
      have HXC : Hid (X.key.c.length = 32 ∧ X.doc.c.length = 32) := Lib.hid ⟨HX.out.1, HX.out.2.1⟩
      have HR : Hid (j + 1 = (L.take j).length + 1) := Lib.hid (by rw [List.length_take, HL.out]; omega)
      have H48 : Hid (((L.take j).length + 1) * (120 + 1) ≤ 140737488355328) := Lib.hid (by rw [List.length_take, HL.out]; have := HM.out; omega)
      obtain ⟨ki, hki⟩ : ∃ ki : Int, (X.kind : Int) = ki := ⟨_, rfl⟩
      obtain ⟨ps, hps⟩ : ∃ ps, strB X.path = ps := ⟨_, rfl⟩
      rw [hki] at HKD
      rw [hps] at HP
      have HKI := Lib.hid hki
      have HPS := Lib.hid hps
      clear hg hX hki hps
      go_wp2
      have HO1 : Hid (OwnG clK CEr wr.drew w.heap.size (.slice a' j c') (L.take j)) := Lib.hid (HO.out.below (Below.refl _ _).drew)
      have HS1 : Hid (Below w.heap.size w wr.drew) := Lib.hid HB.out.drew
      refine wp_region_held_drew (S := fun W => Below w.heap.size w W) (by kernel_rfl) HS1.out (fun hHeld => ?_)
      refine wpAnyH_take (i := 0) (oi := ⟨some 11, .move (.tmp 3), _, _, _, _⟩) (v := (.slice a' j c')) rfl (by kernel_rfl) (by kernel_rfl) (by kernel_rfl) (fun _ _ _ h => h) (Or.inl ⟨by rfl, fun W hW => by go_simp⟩) (by assumption) ?_
      simp only [Act.put, List.setIfInBounds_toArray, List.set_cons_zero, List.set_cons_succ]
      refine wpAnyH_take (i := 1) (oi := ⟨some 12, .move (.tmp 0), _, _, _, _⟩) (v := (.slice (some ⟨b, o, none⟩) n c)) rfl (by kernel_rfl) (by kernel_rfl) (by kernel_rfl) (fun _ _ _ h => h) (Or.inl ⟨by rfl, fun W hW => by go_simp⟩) (by assumption) ?_
      simp only [Act.put, List.setIfInBounds_toArray, List.set_cons_zero, List.set_cons_succ]
      refine wpAnyH_take (i := 2) (oi := ⟨some 13, .move (.tmp 4), _, _, _, _⟩) (v := (.int .i64 (j : Nat))) rfl (by kernel_rfl) (by kernel_rfl) (by kernel_rfl) (fun _ _ _ h => h) (Or.inl ⟨by rfl, fun W hW => by go_simp⟩) (by assumption) ?_
      simp only [Act.put, List.setIfInBounds_toArray, List.set_cons_zero, List.set_cons_succ]
      refine wpAnyH_take (i := 3) (oi := ⟨some 14, .indexAddr 22 (.tmp 12) (.tmp 13), _, _, _, _⟩) (v := (.pointer (some ⟨b, o + j * 70, none⟩))) rfl (by kernel_rfl) (by kernel_rfl) (by kernel_rfl) (fun _ _ _ h => h) (Or.inl ⟨by rfl, fun W hW => by go_simp⟩) (by assumption) ?_
      simp only [Act.put, List.setIfInBounds_toArray, List.set_cons_zero, List.set_cons_succ]
      refine wpAnyH_take (i := 4) (oi := ⟨some 15, .fieldAddr 45 (.tmp 14) 0, _, _, _, _⟩) (v := (.pointer (some ⟨b, o + j * 70, none⟩))) rfl (by kernel_rfl) (by kernel_rfl) (by kernel_rfl) (fun _ _ _ h => h) (Or.inl ⟨by rfl, fun W hW => by go_simp⟩) (by assumption) ?_
      simp only [Act.put, List.setIfInBounds_toArray, List.set_cons_zero, List.set_cons_succ]
      refine wpAnyH_take (i := 5) (oi := ⟨some 16, .load 35 (.tmp 15), _, _, _, _⟩) (v := (.agg (keyC X.key))) rfl (by kernel_rfl) (by kernel_rfl) (by kernel_rfl) (fun _ _ _ h => h) (Or.inl ⟨by rfl, fun W hW => exec_loadKey _ rfl _ _ _ HXC.out.1 rfl (HK.out W hW)⟩) (by assumption) ?_
      simp only [Act.put, List.setIfInBounds_toArray, List.set_cons_zero, List.set_cons_succ]
      refine wpAnyH_take (i := 6) (oi := ⟨some 17, .move (.tmp 0), _, _, _, _⟩) (v := (.slice (some ⟨b, o, none⟩) n c)) rfl (by kernel_rfl) (by kernel_rfl) (by kernel_rfl) (fun _ _ _ h => h) (Or.inl ⟨by rfl, fun W hW => by go_simp⟩) (by assumption) ?_
      simp only [Act.put, List.setIfInBounds_toArray, List.set_cons_zero, List.set_cons_succ]
      refine wpAnyH_take (i := 7) (oi := ⟨some 18, .move (.tmp 4), _, _, _, _⟩) (v := (.int .i64 (j : Nat))) rfl (by kernel_rfl) (by kernel_rfl) (by kernel_rfl) (fun _ _ _ h => h) (Or.inl ⟨by rfl, fun W hW => by go_simp⟩) (by assumption) ?_
      simp only [Act.put, List.setIfInBounds_toArray, List.set_cons_zero, List.set_cons_succ]
      refine wpAnyH_take (i := 8) (oi := ⟨some 19, .indexAddr 22 (.tmp 17) (.tmp 18), _, _, _, _⟩) (v := (.pointer (some ⟨b, o + j * 70, none⟩))) rfl (by kernel_rfl) (by kernel_rfl) (by kernel_rfl) (fun _ _ _ h => h) (Or.inl ⟨by rfl, fun W hW => by go_simp⟩) (by assumption) ?_
      simp only [Act.put, List.setIfInBounds_toArray, List.set_cons_zero, List.set_cons_succ]
      refine wpAnyH_take (i := 9) (oi := ⟨some 20, .fieldAddr 45 (.tmp 19) 1, _, _, _, _⟩) (v := (.pointer (some ⟨b, o + j * 70 + 34, none⟩))) rfl (by kernel_rfl) (by kernel_rfl) (by kernel_rfl) (fun _ _ _ h => h) (Or.inl ⟨by rfl, fun W hW => by go_simp⟩) (by assumption) ?_
      simp only [Act.put, List.setIfInBounds_toArray, List.set_cons_zero, List.set_cons_succ]
      refine wpAnyH_take (i := 10) (oi := ⟨some 21, .load 35 (.tmp 20), _, _, _, _⟩) (v := (.agg (keyC X.doc))) rfl (by kernel_rfl) (by kernel_rfl) (by kernel_rfl) (fun _ _ _ h => h) (Or.inl ⟨by rfl, fun W hW => exec_loadKey _ rfl _ _ _ HXC.out.2 rfl (HD.out W hW)⟩) (by assumption) ?_
      simp only [Act.put, List.setIfInBounds_toArray, List.set_cons_zero, List.set_cons_succ]
      refine wpAnyH_take (i := 11) (oi := ⟨some 22, .move (.tmp 0), _, _, _, _⟩) (v := (.slice (some ⟨b, o, none⟩) n c)) rfl (by kernel_rfl) (by kernel_rfl) (by kernel_rfl) (fun _ _ _ h => h) (Or.inl ⟨by rfl, fun W hW => by go_simp⟩) (by assumption) ?_
      simp only [Act.put, List.setIfInBounds_toArray, List.set_cons_zero, List.set_cons_succ]
      refine wpAnyH_take (i := 12) (oi := ⟨some 23, .move (.tmp 4), _, _, _, _⟩) (v := (.int .i64 (j : Nat))) rfl (by kernel_rfl) (by kernel_rfl) (by kernel_rfl) (fun _ _ _ h => h) (Or.inl ⟨by rfl, fun W hW => by go_simp⟩) (by assumption) ?_
      simp only [Act.put, List.setIfInBounds_toArray, List.set_cons_zero, List.set_cons_succ]
      refine wpAnyH_take (i := 13) (oi := ⟨some 24, .indexAddr 22 (.tmp 22) (.tmp 23), _, _, _, _⟩) (v := (.pointer (some ⟨b, o + j * 70, none⟩))) rfl (by kernel_rfl) (by kernel_rfl) (by kernel_rfl) (fun _ _ _ h => h) (Or.inl ⟨by rfl, fun W hW => by go_simp⟩) (by assumption) ?_
      simp only [Act.put, List.setIfInBounds_toArray, List.set_cons_zero, List.set_cons_succ]
      refine wpAnyH_take (i := 14) (oi := ⟨some 25, .fieldAddr 45 (.tmp 24) 2, _, _, _, _⟩) (v := (.pointer (some ⟨b, o + j * 70 + 68, none⟩))) rfl (by kernel_rfl) (by kernel_rfl) (by kernel_rfl) (fun _ _ _ h => h) (Or.inl ⟨by rfl, fun W hW => by go_simp⟩) (by assumption) ?_
      simp only [Act.put, List.setIfInBounds_toArray, List.set_cons_zero, List.set_cons_succ]
      refine wpAnyH_take (i := 15) (oi := ⟨some 26, .load 5 (.tmp 25), _, _, _, _⟩) (v := (.int .u8 ki)) rfl (by kernel_rfl) (by kernel_rfl) (by kernel_rfl) (fun _ _ _ h => h) (Or.inl ⟨by rfl, fun W hW => by have hcell := HKD.out W hW; go_simp⟩) (by assumption) ?_
      simp only [Act.put, List.setIfInBounds_toArray, List.set_cons_zero, List.set_cons_succ]
      refine wpAnyH_take (i := 16) (oi := ⟨some 27, .move (.tmp 0), _, _, _, _⟩) (v := (.slice (some ⟨b, o, none⟩) n c)) rfl (by kernel_rfl) (by kernel_rfl) (by kernel_rfl) (fun _ _ _ h => h) (Or.inl ⟨by rfl, fun W hW => by go_simp⟩) (by assumption) ?_
      simp only [Act.put, List.setIfInBounds_toArray, List.set_cons_zero, List.set_cons_succ]
      refine wpAnyH_take (i := 17) (oi := ⟨some 28, .move (.tmp 4), _, _, _, _⟩) (v := (.int .i64 (j : Nat))) rfl (by kernel_rfl) (by kernel_rfl) (by kernel_rfl) (fun _ _ _ h => h) (Or.inl ⟨by rfl, fun W hW => by go_simp⟩) (by assumption) ?_
      simp only [Act.put, List.setIfInBounds_toArray, List.set_cons_zero, List.set_cons_succ]
      refine wpAnyH_take (i := 18) (oi := ⟨some 29, .indexAddr 22 (.tmp 27) (.tmp 28), _, _, _, _⟩) (v := (.pointer (some ⟨b, o + j * 70, none⟩))) rfl (by kernel_rfl) (by kernel_rfl) (by kernel_rfl) (fun _ _ _ h => h) (Or.inl ⟨by rfl, fun W hW => by go_simp⟩) (by assumption) ?_
      simp only [Act.put, List.setIfInBounds_toArray, List.set_cons_zero, List.set_cons_succ]
      refine wpAnyH_take (i := 19) (oi := ⟨some 30, .fieldAddr 45 (.tmp 29) 3, _, _, _, _⟩) (v := (.pointer (some ⟨b, o + j * 70 + 69, none⟩))) rfl (by kernel_rfl) (by kernel_rfl) (by kernel_rfl) (fun _ _ _ h => h) (Or.inl ⟨by rfl, fun W hW => by go_simp⟩) (by assumption) ?_
      simp only [Act.put, List.setIfInBounds_toArray, List.set_cons_zero, List.set_cons_succ]
      refine wpAnyH_take (i := 20) (oi := ⟨some 31, .load 9 (.tmp 30), _, _, _, _⟩) (v := (.string ps)) rfl (by kernel_rfl) (by kernel_rfl) (by kernel_rfl) (fun _ _ _ h => h) (Or.inl ⟨by rfl, fun W hW => by have hcell := HP.out W hW; go_simp⟩) (by assumption) ?_
      simp only [Act.put, List.setIfInBounds_toArray, List.set_cons_zero, List.set_cons_succ]
      refine wpAnyH_take (i := 21) (oi := ⟨some 32, .build 40 #[(0, (.tmp 16)), (1, (.tmp 21)), (2, (.tmp 26)), (3, (.tmp 31))], _, _, _, _⟩) (v := (.agg (claimC X))) rfl (by kernel_rfl) (by kernel_rfl) (by kernel_rfl) (fun _ _ _ h => h) (Or.inl ⟨by rfl, fun W hW => exec_claim _ _ _ _ rfl X HXC.out rfl rfl (by rw [HKI.out]; rfl) (by rw [HPS.out]; rfl)⟩) (by assumption) ?_
      simp only [Act.put, List.setIfInBounds_toArray, List.set_cons_zero, List.set_cons_succ]
      refine wpAnyH_ready (rs := [22]) (by kernel_rfl) (by simp) ?_
      refine AllReadyH.cons (o := ⟨some 33, .buildSlice 26 1 #[(0, (.tmp 32))], _, _, _, _⟩) rfl (fun K hK => ?_) AllReadyH.nil
      refine ready_step (wp_sl_claim _ rfl X HXC.out rfl ?_)
      have HS2 := Lib.hid (HS1.out.alloc HS1.out.size (.cells (claimC X) CEr))
      refine hK.out _ _ HS2.out (fun hHeld => ?_)
      clear hK K
      refine wpAnyH_ready (rs := [23]) (by kernel_rfl) (by simp) ?_
      refine AllReadyH.cons (o := ⟨some 34, .call { callee := .builtin .append, args := #[(.tmp 11), (.tmp 33)], argTypes := #[26, 26] }, _, _, _, _⟩) rfl (fun K hK => ?_) AllReadyH.nil
      refine ready_step (wp_appG clK Tryz.underlying26 infoCl sizeZ _ _ rfl w.heap.size _ (L.take j) rfl (HO1.out.alloc _) _ 1 1 [X] rfl (one_claim wr.drew X HX.out) H48.out HS2.out.size (j + 1) HR.out ?_); intro a2 c2 W2 ho2 hg2
      have HS3 := Lib.hid (HS2.out.grown hg2 HS2.out.size (fun k hk => (HO1.out.lt k hk).1))
      refine hK.out _ _ HS3.out (fun hHeld => ?_)
      clear hK K
      refine wpAnyH_take (i := 24) (oi := ⟨some 3, .assign (.tmp 34), _, _, _, _⟩) (v := (.slice a2 (j + 1) c2)) rfl (by kernel_rfl) (by kernel_rfl) (by kernel_rfl) (fun _ _ _ h => h) (Or.inl ⟨by rfl, fun W hW => by go_simp⟩) (by assumption) ?_
      simp only [Act.put, List.setIfInBounds_toArray, List.set_cons_zero, List.set_cons_succ]
      refine wpAnyH_done (by kernel_rfl) ?_ _
      go_wp2
      go_roundg (gk - 1)
      case measure => have := HG.out; omega
      case rel =>
        exact ⟨j + 1, HS3.out, by go_num, by have := HG.out; omega, a2, c2, rfl, Lib.hid (by rw [HT.out]; exact ho2)⟩
    · have hjn : j = n := by omega
      subst hjn
      clear hg
      go_wp2
      go_ret
      have ho := HO.out
      have e : L.take j = L := List.take_of_length_le (by rw [HL.out]; omega)
      rw [e] at ho
      refine ⟨a', c', ?_, ?_, HB.out⟩
      · show Ending.returned (.slice a' j c') = _
        rw [HL.out]
      · rw [HL.out]; exact ho
#print axioms told_any

set_option maxRecDepth 100000 in
set_option maxHeartbeats 1000000 in
/-- Are claims few, and small? -/
theorem light_any (a : Option Addr) (n c : Nat) (L : List ClaimV) (w : World) (h : AtG clK w a n c L) (q : Bool) (hq : q = true ↔ n ≤ 40 ∧ ∀ x ∈ L, x.path.length ≤ 100) :
    Calls Tryz.prog 5 #[.slice a n c] w fun e w' => e = .returned (.bool q) ∧ w = w' := by
  have HL := Lib.hid h.1
  have HN := Lib.hid h
  have HQ := Lib.hid hq
  have hnI : (n : Int) ≤ 9223372036854775807 := by have := h.2.1; have := h.2.2.1; omega
  by_cases h40 : (40 : Int) < (n : Int)
  · have HE : Hid (q = false) := Lib.hid (by
      cases q
      · rfl
      · have := (hq.1 rfl).1; omega)
    clear h hq
    go_enter Tryz.func5, Tryz.ntmps5
    go_wp2
    go_ret
    exact ⟨by rw [HE.out]; rfl, rfl⟩
  · have d40 : decide ((40 : Int) < (n : Int)) = false := decide_eq_false h40
    have hn40 : (n : Int) ≤ 40 := by omega
    clear h hq h40 hnI
    go_enter Tryz.func5, Tryz.ntmps5
    go_wp2
    go_loopg [3] n (fun g v3 W => ∃ j : Nat, w = W ∧ v3 = .int .i64 j ∧ g + j = n ∧ Hid (∀ i, i < j → (gd L i).path.length ≤ 100))
    case atStart => exact ⟨0, rfl, rfl, rfl, Lib.hid (fun i h => by omega)⟩
    case round =>
      obtain ⟨j, rfl, rfl, hg, HS⟩ := hrel
      have HG := Lib.hid hg
      have hj0 : (0 : Int) ≤ (j : Int) := by omega
      have hjI : (j : Int) ≤ (n : Int) := by omega
      by_cases hj : (j : Int) < (n : Int)
      · have hjn : j < n := by omega
        have HJ := Lib.hid hjn
        obtain ⟨b, o, rfl⟩ := HN.out.some_ (by omega)
        have cp := cl_path HN.out hjn
        obtain ⟨ps, hps⟩ : ∃ ps, strB (gd L j).path = ps := ⟨_, rfl⟩
        rw [hps] at cp
        have hsz : ps.size = (gd L j).path.length := by rw [← hps, strB_size]
        have HSZ := Lib.hid hsz
        by_cases h100 : (100 : Int) < (ps.size : Int)
        · have HE : Hid (q = false) := Lib.hid (by
            cases q
            · rfl
            · have := (HQ.out.1 rfl).2 (gd L j) (gd_mem (by rw [HL.out]; exact hjn))
              omega)
          clear hg hps hsz
          go_wp2
          go_ret
          exact ⟨by rw [HE.out]; rfl, rfl⟩
        · have d1 : decide ((100 : Int) < (ps.size : Int)) = false := decide_eq_false h100
          have H100 := Lib.hid h100
          clear hg hps hsz h100
          go_wp2
          go_roundg (gk - 1)
          case measure => have := HG.out; have := HJ.out; omega
          case rel => exact ⟨j + 1, rfl, by go_num, by have := HG.out; have := HJ.out; omega, Lib.hid (fun i hi => by
            rcases Nat.lt_or_ge i j with h1 | h1
            · exact HS.out i h1
            · obtain rfl : i = j := by omega
              have := H100.out; have := HSZ.out; omega)⟩
      · have hjn : j = n := by omega
        subst hjn
        have HE : Hid (q = true) := Lib.hid (HQ.out.2 ⟨by omega, fun x hx => by
          obtain ⟨i, hi, rfl⟩ := List.mem_iff_getElem.1 hx
          have e : gd L i = L[i] := by unfold gd; simp [hi]
          rw [← e]
          exact HS.out i (by rw [← HL.out]; exact hi)⟩)
        clear hg
        go_wp2
        go_ret
        exact ⟨by rw [HE.out]; rfl, rfl⟩
#print axioms light_any
end Go.Proofs.YtipoielcmaegaaaGreatDoor
