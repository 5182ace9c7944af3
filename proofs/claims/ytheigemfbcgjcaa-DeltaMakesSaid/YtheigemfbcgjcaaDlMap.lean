/-
  The map from rows of eight bytes to spans.
-/
import Derived.Test.YtheigemfbcgjcaaDlOrder
import Derived.Maps.Own
import Derived.Maps.Keyed
import Derived.DeepKeys4
import Derived.MapViews
import Derived.Maps.OwnSet
import Derived.Maps.RangeWalk
import Derived.Lib.Hide
namespace Go.Proofs.Ytheigemfbcgjcaa
open Go.RowKit Go.Maps

abbrev RowT : TypeId := 58
abbrev SpanT : TypeId := 60
theorem lawR : Keyed Try.prog RowT := Keyed.of_law (deep_law_laid (m := 4) (by kernel_rfl) (by omega) (of_decide_eq_true (by kernel_rfl)) (by kernel_rfl) (by kernel_rfl))
def rowC (r : List UInt8) : Array Value := (r.map B).toArray
def KlR (r : List UInt8) (l : Lit) : Prop := keyOf Try.prog RowT (.agg (rowC r)) = some l
theorem KlR.inj {x y : List UInt8} {l : Lit} (hx : KlR x l) (hy : KlR y l) : x = y := by
  have h1 := lawR.inj hx hy
  have h3 : rowC x = rowC y := by injection h1
  have h4 : x.map B = y.map B := by
    have := congrArg Array.toList h3
    exact this
  clear h1 h3 hx hy
  induction x generalizing y with
  | nil => cases y with
    | nil => rfl
    | cons b y => cases h4
  | cons a x ih => cases y with
    | nil => cases h4
    | cons b y =>
      rw [List.map_cons, List.map_cons] at h4
      injection h4 with h5 h6
      unfold B at h5
      injection h5 with _ h7
      rw [ih h6, UInt8.toNat_inj.1 (by omega : a.toNat = b.toNat)]
theorem keyU (d : Nat) (x : UInt8) : Try.prog.keyLits (d + 1) 5 [B x] = some [.int .u8 (x.toNat : Int)] := by
  unfold Program.keyLits
  rw [Try.underlying5]
  exact if_pos ⟨rfl, WalkArith.wf_u8 (by have := x.toNat_lt; omega)⟩
set_option maxRecDepth 100000 in
theorem klR_there (r : List UInt8) (h : r.length = 8) : ∃ l, KlR r l := by
  match r, h with
  | [a, b, c, d, e, f, g, i], _ =>
    unfold KlR keyOf
    rw [Try.underlying58]
    have h1 : (Try.prog.keyType RowT && Value.formed Try.prog RowT (.agg (rowC [a, b, c, d, e, f, g, i]))) = true := by kernel_rfl
    have hs : ∃ s, Try.prog.types.size = s + 1 := ⟨Try.prog.types.size - 1, by kernel_rfl⟩
    obtain ⟨s, hs⟩ := hs
    simp only [h1, if_true, hs]
    have hc : Try.prog.cellsOf 5 = 1 := by kernel_rfl
    have hc8 : Try.prog.cellsOf RowT = 8 := by kernel_rfl
    refine ⟨.string (keyBytes [.int .u8 (a.toNat : Int), .int .u8 (b.toNat : Int), .int .u8 (c.toNat : Int), .int .u8 (d.toNat : Int), .int .u8 (e.toNat : Int), .int .u8 (f.toNat : Int), .int .u8 (g.toNat : Int), .int .u8 (i.toNat : Int)]), ?_⟩
    conv => lhs; arg 2; unfold Program.keyLits
    rw [Try.underlying58]
    show Option.map _ (if (Value.agg (rowC [a, b, c, d, e, f, g, i])).cells.toList.length = Try.prog.cellsOf RowT then _ else none) = _
    rw [if_pos (by rw [hc8]; rfl), hc]
    show Option.map _ (Option.map List.flatten (List.mapM (fun i_1 => Try.prog.keyLits (s + 1) 5 ((([a, b, c, d, e, f, g, i].map B).drop (i_1 * 1)).take 1)) (List.range 8))) = _
    have e8 : List.range 8 = [0, 1, 2, 3, 4, 5, 6, 7] := by decide
    rw [e8]
    simp only [List.map_cons, List.map_nil, List.mapM_cons, List.mapM_nil, Nat.mul_one, List.drop_zero, List.take_succ_cons, List.take_zero, List.drop_succ_cons, keyU, Option.bind_eq_bind, Option.bind_some, Option.pure_def, Option.map_some]
    rfl

/-- A span as a datum. -/
def spD (f t : Nat) : DataW Unit := .agg [.lit (.int .i64 (f : Int)), .lit (.int .i64 (t : Int))]
def spElem (v : Value) : Option (DataW Unit × List MemPlace) :=
  match v with
  | .agg cs => match cs.toList with
    | [.int .i64 f, .int .i64 t] => some (.agg [.lit (.int .i64 f), .lit (.int .i64 t)], [])
    | _ => none
  | _ => none
abbrev spC (f t : Nat) : Array Value := #[.int .i64 (f : Nat), .int .i64 (t : Nat)]
theorem spElem_mk (f t : Nat) : spElem (.agg (spC f t)) = some (spD f t, []) := rfl
theorem spElem_inv {v : Value} {f t : Nat} {ps : List MemPlace} (h : spElem v = some (spD f t, ps)) : v = .agg (spC f t) := by
  unfold spElem at h
  split at h
  · rename_i cs
    split at h
    · rename_i f' t' hcs
      simp only [spD, Option.some.injEq, Prod.mk.injEq, DataW.agg.injEq, List.cons.injEq, DataW.lit.injEq, Lit.int.injEq, true_and, and_true] at h
      obtain ⟨⟨h1, h2⟩, _⟩ := h
      subst h1
      subst h2
      congr 1
      exact Array.toList_inj.1 hcs
    · cases h
  · cases h
theorem zeroSp (w : World) : (zeroValue SpanT).run Try.prog w = .ok (.agg (spC 0 0)) w := by kernel_rfl
/-- Block kb is the map: of each row of eight bytes, its span. -/
def MapAt (w : World) (kb k : Nat) (Bg : List UInt8 → Option (Nat × Nat)) : Prop :=
  ∃ D, w.ownsMap Try.prog RowT spElem kb k D ∧ ∀ r kl, KlR r kl → Maps.has D kl = (Bg r).isSome ∧ ∀ s, Bg r = some s → D.atKey kl (spD 0 0) = spD s.1 s.2
section
variable {w w' : World} {kb k : Nat} {Bg : List UInt8 → Option (Nat × Nat)}
theorem MapAt.lt (h : MapAt w kb k Bg) : kb < w.heap.size := by
  obtain ⟨D, h1, _⟩ := h
  exact h1.lt
theorem MapAt.block (h : MapAt w kb k Bg) (hk : w'.heap[kb]? = w.heap[kb]?) : MapAt w' kb k Bg := by
  obtain ⟨D, ⟨es, cl, h3, h4⟩, h2⟩ := h
  exact ⟨D, ⟨es, cl, hk.trans h3, h4⟩, h2⟩
theorem mapAt_new (w : World) : MapAt (w.alloc (.map #[] 0)) w.heap.size 0 (fun _ => none) :=
  ⟨.map [], World.ownsMap_made _ _ _ _, fun r kl _ => ⟨rfl, fun s h => by cases h⟩⟩
theorem exec_look (h : MapAt w kb k Bg) {o : Oper} {a : Act} (mo x : Operand) (ho : o.op = .lookup 55 mo x true) (hm : a.eval mo = .map (some kb)) (r : List UInt8) (hr : r.length = 8) (hx : a.eval x = .agg (rowC r)) (s : Nat × Nat) (q : Bool) (hs : (Bg r).getD (0, 0) = s) (hq : (Bg r).isSome = q) :
    (execOp a.eval o).run Try.prog w = .ok (.value (.tuple #[.agg (spC s.1 s.2), .bool q])) w := by
  obtain ⟨D, h1, h2⟩ := h
  obtain ⟨kl, hkl⟩ := klR_there r hr
  obtain ⟨h3, h4⟩ := h2 r kl hkl
  obtain ⟨v, ps, hrun, hv⟩ := h1.look_ok (t := 55) (e := SpanT) lawR Try.underlying55 (zeroSp w) (zd := spD 0 0) (zp := []) (spElem_mk 0 0) hkl
  rw [h3, hq] at hrun
  have hat : D.atKey kl (spD 0 0) = spD s.1 s.2 := by
    cases hb : Bg r with
    | none =>
      rw [hb] at h3 hs
      rw [Maps.atKey_of_not_has h3]
      subst hs; rfl
    | some s' =>
      rw [hb] at hs
      rw [h4 s' hb]
      subst hs; rfl
  have he : spElem v = some (spD s.1 s.2, ps) := by rw [hv, hat]
  obtain rfl := spElem_inv he
  unfold execOp
  simp only [ho, hm, hx]
  simp only [Sem.run_bind, hrun, Result.andThen_ok, Sem.run_pure]
theorem wp_mapPut (h : MapAt w kb k Bg) (hk : k ≤ 1000000) {o : Oper} {a : Act} {K : Act → World → Prop} {Q : Exit → Act → World → Prop} (mo x y : Operand) (ho : o.op = .mapUpdate 55 mo x y) (hm : a.eval mo = .map (some kb)) (r : List UInt8) (hr : r.length = 8) (hx : a.eval x = .agg (rowC r)) (f t : Nat) (hy : a.eval y = .agg (spC f t))
    (hK : ∀ w', MapAt w' kb (k + 1) (fun z => if z = r then some (f, t) else Bg z) → w.grownBy w' (some kb) → K (a.put o.dst undef) w') : o.wp Try.prog a w K Q := by
  obtain ⟨D, h1, h2⟩ := h
  obtain ⟨kl, hkl⟩ := klR_there r hr
  obtain ⟨w', hrun, r1, r2⟩ := World.ownsMap.store (t := 55) (e := SpanT) h1 lawR Try.underlying55 (by unfold maxLen; omega) hkl (val := .agg (spC f t)) (d := spD f t) (ps := []) (spElem_mk f t)
  unfold Oper.wp
  simp [execOp, ho, hm, hx, hy, hrun, Result.andThen]
  refine hK w' ⟨_, r1, fun z zl hz => ?_⟩ r2.grown
  by_cases he : z = r
  · subst he
    have : zl = kl := by unfold KlR at hz hkl; rw [hz] at hkl; exact Option.some.inj hkl
    subst this
    refine ⟨?_, fun s hs => ?_⟩
    · show _ = (if z = z then some (f, t) else Bg z).isSome
      rw [if_pos rfl]
      exact Maps.has_put_same h1.isMap (lawR.key hkl) _
    have hs' : (if z = z then some (f, t) else Bg z) = some s := hs
    rw [if_pos rfl] at hs'
    obtain rfl := Option.some.inj hs'
    exact Maps.atKey_put_same h1.isMap (lawR.key hkl) _ _
  · have hne : zl ≠ kl := fun e => he (KlR.inj hz (e ▸ hkl))
    obtain ⟨h3, h4⟩ := h2 z zl hz
    refine ⟨?_, fun s hs => ?_⟩
    · show _ = (if z = r then some (f, t) else Bg z).isSome
      rw [if_neg he, Maps.has_put_other hne]; exact h3
    · have hs' : (if z = r then some (f, t) else Bg z) = some s := hs
      rw [if_neg he] at hs'
      rw [Maps.atKey_put_other hne]; exact h4 s hs'
end
/-- Eight bytes, loaded as an array. -/
theorem exec_row {w : World} {o : Oper} {a : Act} (x : Operand) (ho : o.op = .load RowT x) (b off : Nat) (r : List UInt8) (hr : r.length = 8) (hx : a.eval x = .pointer (some ⟨b, off, none⟩)) (hc : w.rangeAt b off (r.map B)) :
    (execOp a.eval o).run Try.prog w = .ok (.value (.agg (rowC r))) w := by
  have hr' := run_loadVar_mid (P := Try.prog) w b off RowT (r.map B) _ hc Try.underlying58 rfl (by rw [List.length_map, hr]; kernel_rfl)
  unfold execOp
  simp only [ho, hx, Instr.loadAt, Instr.sureAddr, Sem.run_bind, Sem.run_pure, Result.andThen_ok, hr']
  rfl
#print axioms wp_mapPut
end Go.Proofs.Ytheigemfbcgjcaa
