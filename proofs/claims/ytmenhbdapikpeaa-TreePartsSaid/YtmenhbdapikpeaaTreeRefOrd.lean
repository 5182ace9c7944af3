/-
  The walk of the document's Order.
-/
import Derived.Test.YtmenhbdapikpeaaTreeNextW
import Derived.Test.YtmenhbdapikpeaaRefPlacesL
namespace Go.Proofs.Ytmenhbdapikpeaa
open Go.RowKit

theorem oneBl (x : Nat) : (Bl x).oneCell' = true := rfl
/-- What is told, by a row of bools. -/
def TellT (n : Nat) (T out : List Nat) : Prop := ∀ i, i < n → (T.getD i 0 = 1 ↔ i ∈ out)
theorem tellT_zero (n : Nat) : TellT n (List.replicate n 0) [] := fun i hi => by simp [List.getD, hi]
theorem TellT.put {n : Nat} {T out : List Nat} (h : TellT n T out) (hl : T.length = n) (k : Nat) : TellT n (T.set k 1) (out ++ [k]) := fun i hi => by
  by_cases hk : i = k
  · subst hk
    simp [List.getD, hl, hi]
  · have e : (T.set k 1).getD i 0 = T.getD i 0 := by simp [List.getD, Ne.symm hk]
    rw [e, h i hi]
    simp [hk]
/-- How far it is. -/
def farT (L : List NodeV) (n m : Nat) (q : Int) : Nat := (n - m) * (n + 2) + (wayQ L q).length
theorem farT_down {L : List NodeV} {n m k : Nat} {q : Int} (hn : L.length = n) (hm : m < n) : farT L n (m + 1) k < farT L n m q := by
  unfold farT
  have h1 := wayQ_len L k
  obtain ⟨d, hd⟩ : ∃ d, n - m = d + 1 := ⟨n - m - 1, by omega⟩
  rw [show n - (m + 1) = d from by omega, hd, Nat.add_mul, Nat.one_mul]
  omega
theorem farT_up {L : List NodeV} (hT : TreeP L) {n m a : Nat} (ha : a < L.length) : farT L n m (nd L a).p < farT L n m a := by
  unfold farT
  have := way_up hT ha
  rw [wayQ_nat]
  omega
/-- What holds on the way. -/
structure RefO (L : List NodeV) (w W : World) (n : Nat) (aO : Option Addr) (m cO : Nat) (T out : List Nat) (q : Int) : Prop where
  ref : RefT L out q
  own : Own1 N 3 W (w.heap.size + 1) (.slice aO m cO) out
  row : Own1 Bl 4 W w.heap.size (.slice (some ⟨w.heap.size, 0, none⟩) n n) T
  tell : TellT n T out
  below : Below w.heap.size w W
theorem RefO.len {L : List NodeV} {w W : World} {n m cO : Nat} {aO : Option Addr} {T out : List Nat} {q : Int} (h : RefO L w W n aO m cO T out q) : out.length = m := h.own.len
theorem NextTo.none_ {L : List NodeV} {T out : List Nat} {q z : Int} (h : NextTo L T q L.length z) (hT : TellT L.length T out) (hz : z < 0) : ∀ c, c < L.length → (nd L c).p = q → c ∈ out := by
  rcases h with ⟨_, h2⟩ | ⟨k, h1, _⟩
  · exact fun c hc hp => (hT c hc).1 (h2 c hc hp)
  · omega
theorem NextTo.some_ {L : List NodeV} {T out : List Nat} {q z : Int} (h : NextTo L T q L.length z) (hT : TellT L.length T out) (hz : ¬ z < 0) : ∃ k : Nat, z = (k : Int) ∧ k < L.length ∧ (nd L k).p = q ∧ k ∉ out ∧ ∀ c, c < L.length → (nd L c).p = q → c ∉ out → keyF (nd L c).k (nd L k).k ≤ 0 := by
  rcases h with ⟨h1, _⟩ | ⟨k, h1, h2, h3, h4, h5⟩
  · omega
  · exact ⟨k, h1, h2, h3, fun e => h4 ((hT k h2).2 e), fun c hc hp ho => h5 c hc hp (fun e => ho ((hT c hc).1 e))⟩

/-- A place is told: what the two stores need. -/
structure StepO (L : List NodeV) (w w1 : World) (n : Nat) (aO : Option Addr) (m cO : Nat) (T out : List Nat) (k : Nat) : Prop where
  ref : RefT L (out ++ [k]) k
  cell : w1.cell? ⟨w.heap.size, k, none⟩ = some (.bool (T.getD k 0 == 1))
  frz : w1.frozen? ⟨w.heap.size, k, none⟩ = false
  tell : TellT n (T.set k 1) (out ++ [k])
  row : Own1 Bl 4 (w1.setCell ⟨w.heap.size, k, none⟩ (.bool true)) w.heap.size (.slice (some ⟨w.heap.size, 0, none⟩) n n) (T.set k 1)
  own : Own1 N 3 (w1.setCell ⟨w.heap.size, k, none⟩ (.bool true)) (w.heap.size + 1) (.slice aO m cO) out
  below : Below w.heap.size w (w1.setCell ⟨w.heap.size, k, none⟩ (.bool true))
  size : w.heap.size < w1.heap.size
  h48 : (out.length + 1) * (8 + 1) ≤ 140737488355328
  one : m + 1 = out.length + 1
  room : ∀ o, w.heap.size + 1 ≤ ((w1.setCell ⟨w.heap.size, k, none⟩ (.bool true)).alloc o).heap.size
  far : ∀ q, farT L n (m + 1) k < farT L n m q
theorem ref_step {L : List NodeV} {w w1 : World} {n m cO k : Nat} {aO : Option Addr} {T out : List Nat} {q : Int} (hT : TreeP L) (hL : L.length = n) (hn : n ≤ 1000) (hm : m < n) (h : RefO L w w1 n aO m cO T out q) (hk : k < n) (h3 : (nd L k).p = q) (h4 : k ∉ out)
    (h5 : ∀ c, c < L.length → (nd L c).p = q → c ∉ out → keyF (nd L c).k (nd L k).k ≤ 0) : StepO L w w1 n aO m cO T out k := by
  have hrow : w.heap.size < w1.heap.size ∧ ∀ j, w1.frozen? ⟨w.heap.size, j, none⟩ = false := by
    obtain ⟨g, hg, _, h1, _, h2⟩ := h.row.row (by omega)
    simp only [Option.some.injEq, Addr.mk.injEq, and_true] at hg
    rw [hg]
    exact ⟨h1, h2⟩
  have hlen := h.len
  refine ⟨h.ref.down hT (by omega) h3 h4 h5, ?_, hrow.2 k, h.tell.put h.row.len k, h.row.store h.row.len k 1, ?_, h.below.grown (grown_set w1 w.heap.size k (.bool true)) h.below.size (fun g hg => by cases hg; exact Nat.le_refl _), hrow.1, by omega, by omega, fun o => by simp [World.setCell]; omega, fun q => farT_down hL hm⟩
  · have := h.row.at1.cell k hk
    rwa [Nat.zero_add] at this
  · refine h.own.kept (grown_set w1 w.heap.size k _) ?_
    cases hv : (Value.slice aO m cO).ownBlock with
    | none => exact .inl rfl
    | some g => refine .inr (fun e => ?_); have := (h.own.lt g hv).1; simp only [Option.some.injEq] at e; omega

/-- Places in the one order, in memory made anew. -/
def OrdIs (L : List NodeV) (w : World) (e : Ending) (w' : World) : Prop := ∃ a c l, e = .returned (.slice a L.length c) ∧ OrdT L l ∧ Own1 N 3 w' w.heap.size (.slice a L.length c) l ∧ Below w.heap.size w w'

set_option maxRecDepth 100000 in
set_option maxHeartbeats 4000000 in
theorem refOrder_any (a : Option Addr) (n c : Nat) (L : List NodeV) (w : World) (h : NodesAt w a n c L) (hn : n ≤ 1000) (hR : TreeP L) :
    Calls Try.prog 16 #[.slice a n c] w (OrdIs L w) := by
  have HL := Lib.hid h.1
  have HN := Lib.hid h
  have HT := Lib.hid hR
  have hnI : (n : Int) ≤ 1000 := by omega
  have hn0 : (0 : Int) ≤ (n : Int) := by omega
  have HM := Lib.hid hn
  clear h hn hR
  go_enter Try.func16, Try.ntmps16
  go_wp2_with (at_make; refine make1 Bl Try.underlying37 infoBl rfl rfl _ _ rfl n rfl rfl (by have := HM.out; omega) (by decide) ?_; intro W1 ho1 hg1)
  have H0 : Hid (RefO L w W1 n none 0 0 (List.replicate n 0) [] (-1)) := Lib.hid ⟨refT_zero L, Own1.nil, ho1, tellT_zero n, (Below.refl _ _).grown hg1 (Nat.le_refl _) (fun k hk => by cases hk)⟩
  clear ho1 hg1
  go_loopg [4, 5] (farT L n 0 (-1)) (fun g v4 v5 W => ∃ (m : Nat) (aO : Option Addr) (cO : Nat) (T out : List Nat) (q : Int), v4 = .slice aO m cO ∧ v5 = .int .i64 q ∧ Hid (g = farT L n m q) ∧ Hid (RefO L w W n aO m cO T out q))
  case atStart => exact ⟨0, none, 0, _, _, _, rfl, rfl, Lib.hid rfl, H0⟩
  case round =>
    obtain ⟨m, aO, cO, T, out, q, rfl, rfl, HG, HS⟩ := hrel
    have hm0 : (0 : Int) ≤ (m : Int) := by omega
    have hmI : (m : Int) ≤ (n : Int) := by have := HS.out.ref.out_lt; have := HS.out.len; have := HL.out; omega
    by_cases hm : (m : Int) < (n : Int)
    · have hmn : m < n := by omega
      have HMN := Lib.hid hmn
      have NX := Lib.hid (refNext_any a n c L _ n T q wr (HN.out.below HS.out.below) HS.out.row.at1 HM.out)
      have HPQ := Lib.hid HS.out.ref.plq
      obtain ⟨b, o, rfl⟩ := HN.out.some_ (by omega)
      by_cases hC : ∀ c, c < L.length → (nd L c).p = q → c ∈ out
      · have NX1 : Hid (Calls Try.prog 28 #[.slice (some ⟨b, o, none⟩) n c, .slice (some ⟨w.heap.size, 0, none⟩) n n, .int .i64 q] wr fun e w1 => e = .returned (.int .i64 (-1)) ∧ RefO L w w1 n aO m cO T out q) := Lib.hid (NX.out.mono (by
          rintro e w1 ⟨z, rfl, hz, hb1⟩
          refine ⟨?_, ⟨HS.out.ref, HS.out.own.below hb1, HS.out.row.below hb1, HS.out.tell, HS.out.below.trans (hb1.mono HS.out.below.size)⟩⟩
          rcases hz with ⟨h1, _⟩ | ⟨k, h1, h2, h3, h4, h5⟩
          · rw [h1]
          · exact absurd (((by rw [HL.out]; exact HS.out.tell : TellT L.length T out) k h2).2 (hC k h2 h3)) h4))
        have hq : q ≠ -1 := fun e => by
          subst e
          have h1 := HS.out.ref.end_ HT.out hC
          have h2 := HS.out.len
          have h3 : OrdT L out := ⟨HS.out.ref.begun.1, fun i => ⟨HS.out.ref.begun.2.1 i, h1 i⟩⟩
          have := ordT_length h3
          have := HL.out
          omega
        obtain ⟨x, rfl, hx⟩ : ∃ x : Nat, q = (x : Int) ∧ x < n := by
          rcases HPQ.out with h | ⟨x, h, h2⟩
          · exact absurd h hq
          · exact ⟨x, h, by rw [← HL.out]; exact h2⟩
        have HX := Lib.hid hx
        have hx0 : (0 : Int) ≤ (x : Int) := by omega
        have hxI : (x : Int) < (n : Int) := by omega
        have HU := Lib.hid (fun w1 (h : RefO L w w1 n aO m cO T out x) => (⟨h.ref.up HT.out hC, h.own, h.row, h.tell, h.below⟩ : RefO L w w1 n aO m cO T out (nd L x).p))
        have HF := Lib.hid (farT_up HT.out (n := n) (m := m) (a := x) (by rw [HL.out]; exact hx))
        clear hq hx hC NX
        go_wp2_with (go_at_call 28; (with_reducible refine NX1.out.mono ?_); rintro e w1 ⟨rfl, hs1⟩; have HS1 := Lib.hid hs1; have cp := (HN.out.below HS1.out.below).par x HX.out; clear hs1)
        go_roundg (farT L n m (nd L x).p)
        case measure => rw [HG.out]; exact HF.out
        case rel => exact ⟨m, aO, cO, T, out, _, rfl, rfl, Lib.hid rfl, Lib.hid (HU.out _ HS1.out)⟩
      · have NX1 : Hid (Calls Try.prog 28 #[.slice (some ⟨b, o, none⟩) n c, .slice (some ⟨w.heap.size, 0, none⟩) n n, .int .i64 q] wr fun e w1 => ∃ k : Nat, e = .returned (.int .i64 k) ∧ (k < n ∧ (nd L k).p = q ∧ k ∉ out ∧ ∀ c, c < L.length → (nd L c).p = q → c ∉ out → keyF (nd L c).k (nd L k).k ≤ 0) ∧ RefO L w w1 n aO m cO T out q) := Lib.hid (NX.out.mono (by
          rintro e w1 ⟨z, rfl, hz, hb1⟩
          have hte : TellT L.length T out := by rw [HL.out]; exact HS.out.tell
          have hz0 : ¬ z < 0 := fun h => hC (hz.none_ hte h)
          obtain ⟨k, rfl, h2, h3⟩ := hz.some_ hte hz0
          exact ⟨k, rfl, ⟨by rw [← HL.out]; exact h2, h3⟩, ⟨HS.out.ref, HS.out.own.below hb1, HS.out.row.below hb1, HS.out.tell, HS.out.below.trans (hb1.mono HS.out.below.size)⟩⟩))
        clear hC NX
        go_wp2_with (first
          | (go_at_call 28; (with_reducible refine NX1.out.mono ?_); rintro e w1 ⟨k, rfl, ⟨hkn, h3, h4, h5⟩, hs1⟩; have HS1 := Lib.hid hs1; have hk0 : (0 : Int) ≤ (k : Int) := Int.natCast_nonneg k; have hkI : (k : Int) < (n : Int) := Int.ofNat_lt.2 hkn; have dz : decide ((k : Int) < 0) = false := decide_eq_false (Int.not_lt.2 hk0); have HK := Lib.hid (ref_step HT.out HL.out HM.out HMN.out hs1 hkn h3 h4 h5); have ck := HK.out.cell; have hfz := HK.out.frz; clear hs1 hkn h3 h4 h5)
          | (at_builtin; go_must (refine app1 N oneN Try.underlying27 infoN rfl rfl (.tmp 29) (.tmp 31) rfl (w.heap.size + 1) _ out rfl (HK.out.own.alloc _) _ 1 1 [k] rfl (litAt _ _ k 3 (setCell_size _ _ _)) HK.out.h48 (HK.out.room _) (m + 1) HK.out.one ?_); intro a2 c2 w2 ho2 hg2))
        go_roundg (farT L n (m + 1) k)
        case measure => rw [HG.out]; exact HK.out.far q
        case rel =>
          refine ⟨m + 1, a2, c2, T.set k 1, out ++ [k], _, by go_num, rfl, Lib.hid rfl, Lib.hid ⟨HK.out.ref, ho2, ?_, HK.out.tell, ?_⟩⟩
          · refine (HK.out.row.alloc _).kept hg2 (.inr (fun e => ?_))
            have := (HK.out.own.lt w.heap.size e.symm).1
            omega
          · refine (HK.out.below.alloc HK.out.below.size _).grown hg2 (Nat.le_trans (Nat.le_succ _) (HK.out.room _)) (fun g hg => by have := (HK.out.own.lt g hg).1; omega)
    · have hmn : m = n := by omega
      subst hmn
      have HD := Lib.hid (HS.out.ref.all (by rw [HL.out, HS.out.len]; exact Nat.le_refl _))
      go_wp2
      go_ret
      refine ⟨aO, cO, out, ?_, HD.out, ?_, HS.out.below⟩
      · show Ending.returned (.slice aO m cO) = _
        rw [HL.out]
      · rw [HL.out]; exact HS.out.own.mono (by omega)
#print axioms refOrder_any
end Go.Proofs.Ytmenhbdapikpeaa
