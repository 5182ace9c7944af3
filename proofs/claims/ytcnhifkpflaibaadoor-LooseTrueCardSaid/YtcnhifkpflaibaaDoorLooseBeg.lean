/-
  Merged: LooseMath, LooseRun.
-/
import Derived.Test.YtcnhifkpflaibaaDoorDiskPlain
import Derived.Test.YtcnhifkpflaibaaDoorHexAll
import Derived.Test.YtcnhifkpflaibaaDoorIdAll
import Derived.Test.YtcnhifkpflaibaaDoorDiskRun
namespace Go.Proofs.YtcnhifkpflaibaaDoor

def fileN (id : List UInt8) : Nm := [111, 45] ++ hexF id
def zeroId : List UInt8 := List.replicate 32 0
theorem fileN_may {id : List UInt8} (h : id.length = 32) : mayN (fileN id) = true := by
  unfold mayN fileN
  rw [List.length_append, hexF_length, h]
  rfl
/-- Acts to a file, one behind the other, till one has an error. -/
def chain : DS → List (DS → DS × Nat) → DS × Nat
  | S, [] => (S, 0)
  | S, f :: r => if (f S).2 ≠ 0 then f S else chain (f S).1 r
section
variable (H : List UInt8 → List UInt8)
def getL (S : DS) (id : List UInt8) : List UInt8 × Nat :=
  if (readS S (fileN id)).2 = 4 then ([], 12) else if (readS S (fileN id)).2 ≠ 0 then ([], (readS S (fileN id)).2) else if H (readS S (fileN id)).1 = id then readS S (fileN id) else ([], 12)
def appA (s : Nm) (b : List UInt8) (S : DS) : DS × Nat := appendS S s b
def synA (s : Nm) (S : DS) : DS × Nat := syncS S s
def remA (s : Nm) (S : DS) : DS × Nat := turnS S s s []
/-- What comes of the acts. -/
def finL (id : List UInt8) (x : DS × Nat) : DS × List UInt8 × List UInt8 × Nat := if x.2 ≠ 0 then (x.1, zeroId, [], x.2) else (x.1, id, [], 0)
def putB (S : DS) (b : List UInt8) (id : List UInt8) (s : Nm) (r : List UInt8 × Nat) : DS × List UInt8 × List UInt8 × Nat :=
  if r.2 = 4 then finL id (chain S [appA s b, synA s])
  else if r.2 ≠ 0 then (S, zeroId, [], r.2)
  else if r.1 = b then finL id (chain S [synA s])
  else if H r.1 = id then (S, id, r.1, 7)
  else finL id (chain S [remA s, appA s b, synA s])
def putL (S : DS) (b : List UInt8) : DS × List UInt8 × List UInt8 × Nat :=
  if 262144 < b.length then (S, zeroId, [], 2) else putB H S b (H b) (fileN (H b)) (readS S (fileN (H b)))
def dropL (S : DS) (id : List UInt8) : DS × Nat := if (turnS S (fileN id) (fileN id) []).2 = 4 then ((turnS S (fileN id) (fileN id) []).1, 12) else turnS S (fileN id) (fileN id) []
/-- The id whose file has a name, if it is there. -/
noncomputable def thereL (S : DS) (s : Nm) : Option (List UInt8) := if [111, 45] <+: s ∧ unhexB (s.drop 2) = true ∧ (getL H S (unhexV (s.drop 2))).2 = 0 then some (unhexV (s.drop 2)) else none
noncomputable def listL (S : DS) : List (List UInt8) := setF ((listS S).filterMap (thereL H S))
end
section
variable {H : List UInt8 → List UInt8} {S : DS} {k : Nat}
theorem turn_err_same {s o t : Nm} (h : (turnS S s o t).2 = 4) : (turnS S s o t).1 = S := by
  unfold turnS at h ⊢
  split
  · rfl
  · rename_i h1
    rw [if_neg h1] at h
    split
    · rfl
    · rename_i k hk
      rw [hk] at h
      simp only at h
      split at h <;> simp at h
theorem inv_drop (hi : Inv S) (id : List UInt8) : Inv (dropL S id).1 := by
  unfold dropL
  split <;> exact inv_turn hi _ _ _ (.inl rfl)
theorem few_drop (h : Few S k) (id : List UInt8) : Few (dropL S id).1 (k + 1) := by
  unfold dropL
  split <;> exact few_turn h _ _ _
theorem inv_act (hi : Inv S) (s : Nm) (b : List UInt8) : ∀ f ∈ [remA s, appA s b, synA s], Inv (f S).1 := by
  intro f hf
  simp only [List.mem_cons, List.not_mem_nil, or_false] at hf
  rcases hf with rfl | rfl | rfl
  · exact inv_turn hi _ _ _ (.inl rfl)
  · exact inv_append hi _ _
  · exact inv_sync hi _
theorem few_act (hi : Inv S) (h : Few S k) (s : Nm) (b : List UInt8) : ∀ f ∈ [remA s, appA s b, synA s], Few (f S).1 (k + 1) := by
  intro f hf
  simp only [List.mem_cons, List.not_mem_nil, or_false] at hf
  rcases hf with rfl | rfl | rfl
  · exact few_turn h _ _ _
  · exact few_append h _ _
  · exact (few_sync hi h _).mono (Nat.le_succ _)
theorem chain_ok (s : Nm) (b : List UInt8) (L : List (DS → DS × Nat)) : ∀ (S : DS) (k : Nat), Inv S → Few S k → (∀ f ∈ L, f ∈ [remA s, appA s b, synA s]) → Inv (chain S L).1 ∧ Few (chain S L).1 (k + L.length) := by
  induction L with
  | nil => intro S k hi hf _; exact ⟨hi, hf⟩
  | cons f r ih =>
    intro S k hi hf hL
    have h1 := inv_act hi s b f (hL f (by simp))
    have h2 := few_act hi hf s b f (hL f (by simp))
    unfold chain
    split
    · exact ⟨h1, h2.mono (by simp)⟩
    · have := ih _ _ h1 h2 (fun g hg => hL g (List.mem_cons_of_mem _ hg))
      exact ⟨this.1, this.2.mono (by simp; omega)⟩
theorem finL_fst (id : List UInt8) (x : DS × Nat) : (finL id x).1 = x.1 := by unfold finL; split <;> rfl
theorem put_ok (hi : Inv S) (hf : Few S k) (b : List UInt8) : Inv (putL H S b).1 ∧ Few (putL H S b).1 (k + 3) := by
  have h0 : Inv S ∧ Few S (k + 3) := ⟨hi, hf.mono (by omega)⟩
  have c := fun L (h : ∀ f ∈ L, f ∈ [remA (fileN (H b)), appA (fileN (H b)) b, synA (fileN (H b))]) (hl : L.length ≤ 3) => (show Inv (chain S L).1 ∧ Few (chain S L).1 (k + 3) from by
    have := chain_ok (fileN (H b)) b L S k hi hf h
    exact ⟨this.1, this.2.mono (by omega)⟩)
  unfold putL
  split
  · exact h0
  · unfold putB
    split
    · rw [finL_fst]; exact c _ (fun f hf => List.mem_cons_of_mem _ hf) (by simp)
    split
    · exact h0
    split
    · rw [finL_fst]; exact c _ (fun f hf => by simp at hf; subst hf; simp) (by simp)
    split
    · exact h0
    · rw [finL_fst]; exact c _ (fun f hf => hf) (by simp)
theorem get_ok {id : List UInt8} (h : (getL H S id).2 = 0) : H (getL H S id).1 = id := by
  unfold getL at h ⊢
  split
  · rename_i h1; rw [if_pos h1] at h; simp at h
  · rename_i h1
    rw [if_neg h1] at h
    split
    · rename_i h2; rw [if_pos h2] at h; exact absurd h h2
    · rename_i h2
      rw [if_neg h2] at h
      split
      · rename_i h3; exact h3
      · rename_i h3; rw [if_neg h3] at h; simp at h
theorem list_mem {id : List UInt8} (h : id ∈ listL H S) : id.length = 32 ∧ (getL H S id).2 = 0 := by
  unfold listL at h
  rw [setF_mem, List.mem_filterMap] at h
  obtain ⟨s, _, h⟩ := h
  unfold thereL at h
  split at h
  · rename_i hc
    cases h
    exact ⟨unhexV_length _, hc.2.2⟩
  · cases h
theorem get_read {id : List UInt8} {b : List UInt8} (h : readS S (fileN id) = (b, 0)) (hb : H b = id) : getL H S id = (b, 0) := by
  unfold getL
  rw [h]
  simp [hb]

theorem read_le (hi : Inv S) (s : Nm) : (readS S s).1.length ≤ S.quota := by
  unfold readS
  split
  · exact Nat.zero_le _
  · split
    · exact Nat.zero_le _
    · exact (file_syn hi _).2
/-- A file that is there goes. -/
theorem turn_calm {q t : Nat} (h : Calm S q t) {s : Nm} (hs : mayN s = true) {j : Nat} (hj : look S.now s = some j) : turnS S s s [] = (doneS S ⟨s, [], j⟩, 0) ∧ Calm (doneS S ⟨s, [], j⟩) q t ∧ look (doneS S ⟨s, [], j⟩).now s = none := by
  have hr : readyS S s s = 0 := by unfold readyS; rw [h.up, hs]; rfl
  have ha : armF S = false := by unfold armF; rw [h.arm]; rfl
  refine ⟨?_, ⟨inv_done h.inv (.inl rfl) (may_ne hs) hj, h.up, h.arm, h.quota, h.tot⟩, ?_⟩
  · unfold turnS
    rw [hr, if_neg (by omega), hj, ha, armS_calm h.up h.arm]
    rfl
  · show look (turnD S.now ⟨s, [], j⟩) s = none
    rw [look_turn, if_neg (fun e => e.1 rfl), if_pos rfl]
theorem read_calm {q t : Nat} (h : Calm S q t) {s : Nm} (hs : mayN s = true) : (look S.now s = none ∧ readS S s = ([], 4)) ∨ ∃ j, look S.now s = some j ∧ readS S s = ((fileAt S j).1, 0) := by
  have hr : readyS S s s = 0 := by unfold readyS; rw [h.up, hs]; rfl
  cases hl : look S.now s with
  | none => left; refine ⟨rfl, ?_⟩; unfold readS; rw [hr, if_neg (by omega), hl]
  | some j => right; refine ⟨j, rfl, ?_⟩; unfold readS; rw [hr, if_neg (by omega), hl]
/-- Appended to a new file, and synced: it is held, with just these bytes. -/
theorem new_synced {q t : Nat} (h : Calm S q t) {s : Nm} (hs : mayN s = true) (hl : look S.now s = none) (b : List UInt8) (hq : t + b.length ≤ q) :
    ∃ S1 S2, appendS S s b = (S1, 0) ∧ syncS S1 s = (S2, 0) ∧ HeldS S2 s b b ∧ Calm S2 q (t + b.length) ∧ readS S2 s = (b, 0) := by
  have e1 := append_calm h hs b hq
  have hC1 := calm_put h hs b hq
  obtain ⟨k, hk⟩ := look_put (S := S) s b (may_ne hs)
  obtain ⟨was, h1, h2, h3, h4⟩ := held_sync hC1 hs hk
  have hp : putS S s b = { S with files := S.files ++ [(b, 0)], now := turnD S.now (newAct S s), acts := S.acts ++ [newAct S s] } := by unfold putS; rw [hl]
  have hk2 : k = S.files.length := by
    rw [hp] at hk
    have : look (turnD S.now (newAct S s)) s = some S.files.length := by rw [look_turn, if_pos ⟨may_ne hs, rfl⟩]; rfl
    rw [show look (turnD S.now (newAct S s)) s = some k from hk] at this
    exact Option.some.inj this
  have hw : was = b := by
    have hr : readyS (keepS (putS S s b) k) s s = 0 := by
      unfold readyS
      rw [h3.up, hs]
      rfl
    have hk3 : look (keepS (putS S s b) k).now s = some k := hk
    have h5 : readS (keepS (putS S s b) k) s = (b, 0) := by
      unfold readS
      rw [hr, if_neg (by omega), hk3]
      subst hk2
      simp [fileAt, hp, keepS, List.getD_eq_getElem?_getD]
    rw [h4] at h5
    exact congrArg Prod.fst h5
  subst hw
  exact ⟨_, _, e1, h1, h2, h3, h4⟩
/-- What Put comes to, on a disk that is up, not armed, with room. -/
theorem put_calm {q t : Nat} (h : Calm S q t) (hH : ∀ l, (H l).length = 32) (b : List UInt8) (hb : b.length ≤ 262144) (hq : t + b.length ≤ q) :
    (∃ o, putL H S b = (S, H b, o, 7) ∧ o ≠ b ∧ H o = H b ∧ readS S (fileN (H b)) = (o, 0)) ∨ ∃ S2, putL H S b = (S2, H b, [], 0) ∧ HeldS S2 (fileN (H b)) b b ∧ Calm S2 q (t + b.length) ∧ readS S2 (fileN (H b)) = (b, 0) := by
  have hm := fileN_may (hH b)
  unfold putL
  rw [if_neg (by omega)]
  obtain ⟨s, hs⟩ : ∃ s, s = fileN (H b) := ⟨_, rfl⟩
  rw [← hs] at hm ⊢
  rcases read_calm h hm with ⟨hl, hr⟩ | ⟨j, hl, hr⟩
  · right
    obtain ⟨S1, S2, h1, h2, h3, h4, h5⟩ := new_synced h hm hl b hq
    refine ⟨S2, ?_, h3, h4, h5⟩
    rw [hr]
    unfold putB
    rw [if_pos rfl]
    simp only [chain, appA, synA, h1, h2]
    rfl
  · rw [hr]
    by_cases hb2 : (fileAt S j).1 = b
    · right
      obtain ⟨was, h1, h2, h3, h4⟩ := held_sync h hm hl
      have hw : was = b := by
        have : readS (keepS S j) s = (b, 0) := by
          have hr2 : readyS (keepS S j) s s = 0 := by unfold readyS; rw [h3.up, hm]; rfl
          unfold readS
          rw [hr2, if_neg (by omega), show look (keepS S j).now s = some j from hl, ← hb2]
          have hlt := h.inv.nids _ (look_mem hl)
          simp [fileAt, keepS, List.getD_eq_getElem?_getD, List.getElem?_eq_getElem hlt]
        rw [h4] at this
        exact congrArg Prod.fst this
      subst hw
      refine ⟨keepS S j, ?_, h2, ⟨h3.inv, h3.up, h3.arm, h3.quota, Nat.le_trans h3.tot (Nat.le_add_right _ _)⟩, h4⟩
      unfold putB
      rw [if_neg (by simp), if_neg (by simp), if_pos hb2]
      simp only [chain, synA, h1]
      rfl
    · by_cases hH2 : H (fileAt S j).1 = H b
      · left
        refine ⟨_, ?_, hb2, hH2, rfl⟩
        unfold putB
        rw [if_neg (by simp), if_neg (by simp), if_neg hb2, if_pos hH2]
      · right
        obtain ⟨g1, g2, g3⟩ := turn_calm h hm hl
        obtain ⟨S1, S2, h1, h2, h3, h4, h5⟩ := new_synced g2 hm g3 b hq
        refine ⟨S2, ?_, h3, h4, h5⟩
        unfold putB
        rw [if_neg (by simp), if_neg (by simp), if_neg hb2, if_neg hH2]
        simp only [chain, remA, appA, synA, g1, h1, h2]
        rfl
/-- Behind a crash it is there. -/
theorem put_crash {q t : Nat} {S2 : DS} (h : Calm S2 q t) {b : List UInt8} (hh : HeldS S2 (fileN (H b)) b b) (fs : List Int) : getL H (crashS S2 fs) (H b) = (b, 0) := by
  obtain ⟨n, h1, h2, h3⟩ := held_crash h.inv hh fs
  obtain rfl : n = b.length := by omega
  rw [List.take_length] at h3
  exact get_read h3 rfl
/-- What is there already is put again: it is there, and takes no more room. -/
theorem put_again {q t : Nat} (h : Calm S q t) (hH : ∀ l, (H l).length = 32) {b : List UInt8} (hb : b.length ≤ 262144) (hr : readS S (fileN (H b)) = (b, 0)) :
    ∃ S2, putL H S b = (S2, H b, [], 0) ∧ usedT S2 = usedT S ∧ listL H S2 = listL H S := by
  have hm := fileN_may (hH b)
  obtain ⟨s, hs⟩ : ∃ s, s = fileN (H b) := ⟨_, rfl⟩
  rcases read_calm h hm with ⟨hl, hr2⟩ | ⟨j, hl, hr2⟩
  · rw [hr] at hr2; cases hr2
  · obtain ⟨was, h1, h2, h3, h4⟩ := held_sync h hm hl
    have hf : ∀ k, (fileAt (keepS S j) k).1 = (fileAt S k).1 := by
      intro k
      unfold fileAt keepS
      simp only [List.getD_eq_getElem?_getD, List.getElem?_modify]
      cases S.files[k]? with
      | none => rfl
      | some x => simp only [Option.getD_some]; split <;> rfl
    have hrd : ∀ s, readS (keepS S j) s = readS S s := by
      intro s
      have e : readyS (keepS S j) s s = readyS S s s := rfl
      unfold readS
      rw [e, show (keepS S j).now = S.now from rfl]
      split
      · rfl
      · split
        · rfl
        · rw [hf]
    refine ⟨keepS S j, ?_, ?_, ?_⟩
    · unfold putL putB
      rw [if_neg (by omega), hr, if_neg (by simp), if_neg (by simp), if_pos rfl]
      simp only [chain, synA, h1]
      rfl
    · unfold usedT usedS usedOf
      show (if S.down then 0 else _) = if S.down then 0 else _
      congr 2
      exact List.map_congr_left fun e _ => congrArg List.length (hf e.2)
    · unfold listL
      have : thereL H (keepS S j) = thereL H S := by
        funext s
        unfold thereL getL
        simp only [hrd]
      rw [this]
      rfl
end
#print axioms put_calm
#print axioms put_again
end Go.Proofs.YtcnhifkpflaibaaDoor

namespace Go.Proofs.YtcnhifkpflaibaaDoor
open Go.RowKit Go.Maps

/-- What an act comes to. -/
def ActEnd (w W : World) (F : Nat → Prop) (db : Nat) (r : DS × Nat) (e : Ending) (W' : World) : Prop := e = .returned (.int .i64 (r.2 : Int)) ∧ ∃ F', Run w W' F' db r.1 ∧ Step F W W' F'
/-- Bytes that lie beside the disk. -/
def Safe (F : Nat → Prop) (W : World) (a : Option Addr) (n c : Nat) (l : List UInt8) : Prop := Bytes W a n c l ∧ ∀ g off, 0 < n → a = some ⟨g, off, none⟩ → ¬ F g ∧ g < W.heap.size
section
variable {w W W' W'' : World} {F F' F'' : Nat → Prop} {db : Nat} {S : DS} {a : Option Addr} {n c : Nat} {l : List UInt8}
theorem Safe.nil : Safe F W none 0 0 [] := ⟨Bytes.nil W, fun g off h => by omega⟩
theorem Safe.step (h : Safe F W a n c l) (hs : Step F W W' F') : Safe F' W' a n c l := by
  refine ⟨h.1.later (fun hn g off e hx => (h.2 g off hn e).1 hx) hs.chg, fun g off hn e => ?_⟩
  obtain ⟨h1, h2⟩ := h.2 g off hn e
  exact ⟨fun hF => (hs.more g hF).elim h1 (fun h3 => by omega), Nat.lt_of_lt_of_le h2 hs.chg.size⟩
theorem Safe.below (h : Safe F W a n c l) (hb : Below W.heap.size W W') : Safe F W' a n c l := h.step (Step.of_below hb)
theorem Safe.all (h : Safe F W a n c l) : ∀ W', Chg (fun k => F k ∨ W.heap.size ≤ k) W W' → Bytes W' a n c l := fun W' hW' => h.1.later (fun hn g off e hx => by
  obtain ⟨h1, h2⟩ := h.2 g off hn e
  exact hx.elim h1 (fun h3 => by omega)) hW'
/-- What was there when the law began. -/
theorem Safe.old (R : Run w W F db S) (h : Bytes w a n c l) : Safe F W a n c l := by
  refine ⟨h.below R.2.2, fun g off hn e => ?_⟩
  have h1 : g < w.heap.size := by
    subst e
    rcases h.2.2.2 with ⟨h0, _⟩ | ⟨b, o, ha, hc⟩
    · omega
    · simp only [Option.some.injEq, Addr.mk.injEq, and_true] at ha
      obtain ⟨rfl, rfl⟩ := ha
      exact World.block_lt_of_cell? _ _ (hc 0 hn)
  exact ⟨fun hF => by have := R.2.1 g hF; omega, Nat.lt_of_lt_of_le h1 R.2.2.size⟩
/-- What was made since, beside the disk. -/
theorem Safe.fresh (hlt : ∀ k, F k → k < W.heap.size) {base : Nat} (h : Own W' base (.slice a n c) l) (hb : W.heap.size ≤ base) : Safe F W' a n c l := by
  refine ⟨h.isBytes, fun g off hn e => ?_⟩
  have h1 := World.ownsRow.lt h g (by rw [e]; rfl)
  exact ⟨fun hF => by have := hlt g hF; omega, h1.2⟩
theorem act_end {r : DS × Nat} {e : Ending} (R : Run w W F db S) (h : DiskEnd F W db r e W') : ActEnd w W F db r e W' := by
  obtain ⟨h1, F2, hs, hd⟩ := h
  exact ⟨h1, F2, R.step hs hd, hs⟩
theorem lo_app (R : Run w W F db S) {k : Nat} (hf : Few S k) (hk : k ≤ 1000000) (s : ByteArray) (hB : Safe F W a n c l) {r : DS × Nat} (hr : appendS S s.data.toList l = r) :
    Calls Tryd.prog 16 #[Pt db, .string s, .slice a n c] W (ActEnd w W F db r) :=
  hr ▸ (append_any s a n c l R.1 (Nat.le_trans hf.dirs hk) (Nat.le_trans hf.refused hk) hB.all).mono fun _ _ he => act_end R he
theorem lo_sync (R : Run w W F db S) {k : Nat} (hf : Few S k) (hk : k ≤ 1000000) (s : ByteArray) {r : DS × Nat} (hr : syncS S s.data.toList = r) :
    Calls Tryd.prog 49 #[Pt db, .string s] W (ActEnd w W F db r) :=
  hr ▸ (sync_any s R.1 (Nat.le_trans hf.dirs hk)).mono fun _ _ he => act_end R he
theorem lo_rem (R : Run w W F db S) {k : Nat} (hf : Few S k) (hk : k ≤ 1000000) (s : ByteArray) {r : DS × Nat} (hr : turnS S s.data.toList s.data.toList [] = r) :
    Calls Tryd.prog 43 #[Pt db, .string s] W (ActEnd w W F db r) :=
  hr ▸ (remove_any s R.1 (Nat.le_trans hf.dirs hk)).mono fun _ _ he => act_end R he
theorem lo_read (R : Run w W F db S) (s : ByteArray) {r : List UInt8 × Nat} (hr : readS S s.data.toList = r) :
    Calls Tryd.prog 30 #[Pt db, .string s] W fun e W' => ∃ a n c, e = .returned (.tuple #[.slice a n c, .int .i64 (r.2 : Int)]) ∧ Safe F W' a n c r.1 ∧ Run w W' F db S ∧ Below W.heap.size W W' :=
  (read_any s R.1).mono fun e W2 he => by
    subst hr
    obtain ⟨a, n, c, h1, h2, h3⟩ := he
    exact ⟨a, n, c, h1, Safe.fresh R.1.lt h2 (Nat.le_refl _), R.below h3, h3⟩
theorem lo_crash (R : Run w W F db S) {k : Nat} (hf : Few S k) (hk : k ≤ 1000000) {fs : List Int} (hA : At1 I W a n c fs) (hAF : 0 < n → ∀ g off, a = some ⟨g, off, none⟩ → ¬ F g) (hz : ∀ z ∈ fs, -9223372036854775808 ≤ z ∧ z ≤ 9223372036854775807) {S2 : DS} (hS : crashS S fs = S2) :
    Calls Tryd.prog 10 #[Pt db, .slice a n c] W fun e W' => e = .returned (.tuple #[]) ∧ ∃ F', Run w W' F' db S2 ∧ Step F W W' F' :=
  hS ▸ (crash_any a n c fs R.1 (Nat.le_trans hf.dirs hk) hA hAF hz).mono fun e W2 he => by
    obtain ⟨h1, F2, hs, hd⟩ := he
    exact ⟨h1, F2, R.step hs hd, hs⟩
theorem lo_list {L : List Nm} (R : Run w W F db S) {k : Nat} (hf : Few S k) (hk : k ≤ 1000000) (hL : listS S = L) :
    Calls Tryd.prog 41 #[Pt db] W fun e W' => ∃ a c, e = .returned (.slice a L.length c) ∧ At1 St W' a L.length c L ∧ Run w W' F db S ∧ (∀ g off, a = some ⟨g, off, none⟩ → ¬ F g) ∧ Below W.heap.size W W' := by
  subst hL
  refine (list_any R.1 (Nat.le_trans hf.dirs hk)).mono ?_
  rintro e w2 ⟨a, c, he, hA, hb, hn⟩
  exact ⟨a, c, he, hA, R.below hb, fun g off e hF => by
    have h2 := hn g off e
    have h3 := R.1.lt g hF
    omega, hb⟩
theorem lo_arm (R : Run w W F db S) {z : Int} (hz : z ≤ 9223372036854775807) {S2 : DS} (hS : setArm S z = S2) :
    Calls Tryd.prog 11 #[Pt db, .int .i64 z] W fun e W' => e = .returned (.tuple #[]) ∧ Run w W' F db S2 ∧ Step F W W' F :=
  hS ▸ (arm_any z hz R.1).mono fun _ _ ⟨h1, hs, hd⟩ => ⟨h1, R.step hs hd, hs⟩
theorem lo_down (R : Run w W F db S) {u : Bool} (hu : S.down = u) : Calls Tryd.prog 9 #[Pt db] W fun e W' => e = .returned (.bool u) ∧ W = W' := hu ▸ down_any R.1
theorem lo_used (R : Run w W F db S) {u : Nat} (hu : usedT S = u) : Calls Tryd.prog 20 #[Pt db] W fun e W' => e = .returned (.int .i64 (u : Int)) ∧ W = W' := hu ▸ used_any R.1
end
#print axioms lo_app
end Go.Proofs.YtcnhifkpflaibaaDoor
