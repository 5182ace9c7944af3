/-
  The walks of the directory's acts: a name that comes, goes to another one, is taken away.
-/
import Derived.Test.YtcnhifkpflaibaaDoorDiskFind2
namespace Go.Proofs.YtcnhifkpflaibaaDoor
open Go.RowKit Go.Maps

theorem cell_same {w w' : World} {a : Addr} {v : Value} (h : w.cell? a = some v) (hb : w'.heap[a.block]? = w.heap[a.block]?) : w'.cell? a = some v := by
  rw [World.cell?_of_block hb]; exact h
theorem strB_eq (l : List UInt8) : (strB l).data.toList = l := strB_list l
/-- What is so of a directory behind an act. -/
def DirEnd (w : World) (b : Nat) (bl : List Nat) (l : Dir) (e : Ending) (w' : World) : Prop := e = .returned (.tuple #[]) ∧ DirAt w' b bl l.length (look l) ∧ w.grownBy w' (some b)

set_option maxRecDepth 100000 in
set_option maxHeartbeats 1000000 in
theorem put_any (b x y : Nat) (bl : List Nat) (l : Dir) (a : DAct) (w : World) (hD : DirAt w b bl l.length (look l)) (hs : SortedD l) (hn : l.length ≤ 1000000) (h0 : a.src = []) (h1 : a.dst ≠ []) (h2 : a.dst.length ≤ 80) (hnm : ∀ e ∈ l, e.1 ≠ [])
    (cx : w.cell? ⟨x, 0, none⟩ = some (.pointer (some ⟨bl.getD a.file 0, 0, none⟩))) (cy : w.cell? ⟨y, 0, none⟩ = some (.string (strB a.dst))) :
    Calls Tryd.prog 37 #[.map (some b), .pointer (some ⟨x, 0, none⟩), .pointer (some ⟨y, 0, none⟩)] w (DirEnd w b bl (turnD l a)) := by
  have HD := Lib.hid hD
  have HN := Lib.hid hn
  have HS := Lib.hid hs
  have E := Lib.hid (show ∀ w', DirAt w' b bl (l.length + 1) (fun t => if t = (strB a.dst).data.toList then some a.file else look l t) → DirAt w' b bl (turnD l a).length (look (turnD l a)) from fun w' h => by
    refine DirAt.tight (h.of_eq (fun t => ?_)) (sorted_turn HS.out a)
    rw [look_turn, strB_eq]
    by_cases ht : t = a.dst
    · rw [if_pos ⟨h1, ht⟩, if_pos ht]
    · rw [if_neg (fun e => ht e.2), if_neg ht]
      by_cases ht0 : t = a.src
      · rw [if_pos ht0, ht0, h0, look_none.2 hnm]
      · rw [if_neg ht0])
  have HZ := Lib.hid (show (strB a.dst).size ≤ 1000000 by rw [strB_size]; omega)
  generalize hq : strB a.dst = q at cy E HZ
  clear hD hn h1 h2 h0 hnm hs hq
  go_enter Tryd.func37, Tryd.ntmps37
  go_wp2_with (first | (at_mapUpdate; refine wl_put rfl _ _ _ rfl HD.out HN.out rfl q rfl HZ.out a.file rfl ?_; intro w1 hD1 hg1; have HD1 := Lib.hid hD1; have HG1 := Lib.hid hg1; clear hD1 hg1))
  refine bodyPost_ret (results_none rfl _ _ _) rfl ⟨rfl, E.out _ HD1.out, HG1.out⟩

set_option maxRecDepth 100000 in
set_option maxHeartbeats 1000000 in
theorem del_any (b x : Nat) (bl : List Nat) (l : Dir) (a : DAct) (w : World) (hD : DirAt w b bl l.length (look l)) (hs : SortedD l) (h1 : a.dst = []) (h2 : a.src.length ≤ 80)
    (cx : w.cell? ⟨x, 0, none⟩ = some (.string (strB a.src))) :
    Calls Tryd.prog 67 #[.map (some b), .pointer (some ⟨x, 0, none⟩)] w (DirEnd w b bl (turnD l a)) := by
  have HD := Lib.hid hD
  have HS := Lib.hid hs
  have E := Lib.hid (show ∀ w', DirAt w' b bl l.length (fun t => if t = (strB a.src).data.toList then none else look l t) → DirAt w' b bl (turnD l a).length (look (turnD l a)) from fun w' h => by
    refine DirAt.tight (h.of_eq (fun t => ?_)) (sorted_turn HS.out a)
    rw [look_turn, strB_eq, if_neg (c := a.dst ≠ [] ∧ t = a.dst) (fun e => e.1 h1)])
  have HZ := Lib.hid (show (strB a.src).size ≤ 1000000 by rw [strB_size]; omega)
  generalize hq : strB a.src = q at cx E HZ
  clear hD h1 h2 hs hq
  go_enter Tryd.func67, Tryd.ntmps67
  go_wp2_with (first | (at_delete; refine wl_del rfl _ _ rfl HD.out rfl q rfl HZ.out ?_; intro w1 hD1 hg1; have HD1 := Lib.hid hD1; have HG1 := Lib.hid hg1; clear hD1 hg1))
  refine bodyPost_ret (results_none rfl _ _ _) rfl ⟨rfl, E.out _ HD1.out, HG1.out⟩

end Go.Proofs.YtcnhifkpflaibaaDoor
