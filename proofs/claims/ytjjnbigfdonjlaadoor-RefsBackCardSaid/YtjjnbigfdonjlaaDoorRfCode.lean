/-
  The bytes of refs, plainly: what is written, what is read, there and back.
-/
import Derived.Test.YtjjnbigfdonjlaaDoorGrp14
import Derived.Test.YtjjnbigfdonjlaaDoorGrp10
namespace Go.Proofs.YtjjnbigfdonjlaaDoor
open Go.RowKit

/-! ### What is written -/
def txtRf (s : List UInt8) : List UInt8 := numF s.length ++ s
def nameB (x : RName) : List UInt8 := txtRf x.1 ++ x.2
def namesB (L : List RName) : List UInt8 := L.flatMap nameB
def entB (e : EntV) : List UInt8 := [UInt8.ofNat e.upd.kind] ++ (txtRf e.upd.name ++ (e.upd.old ++ (e.upd.new ++ txtRf e.note)))
def logB (L : List EntV) : List UInt8 := L.flatMap entB
def listB (L : List RName) : List UInt8 := numF L.length ++ namesB L
def writeF (r : RefsV) : List UInt8 := listB r.br ++ (listB r.tg ++ (txtRf r.head ++ (r.at_ ++ (numF r.log.length ++ logB r.log))))
theorem namesB_snoc (L : List RName) (x : RName) : namesB (L ++ [x]) = namesB L ++ nameB x := by simp [namesB]
theorem logB_snoc (L : List EntV) (x : EntV) : logB (L ++ [x]) = logB L ++ entB x := by simp [logB]

/-! ### What is read -/
def pN (B : List UInt8) (at_ most : Nat) : Option (Nat × Nat) := match getI B at_ with
  | (n, u, 0) => if n ≤ most then some (n, u) else none
  | _ => none
def pT (B : List UInt8) (at_ most : Nat) : Option (List UInt8 × Nat) := match getT B at_ most with
  | (s, u, 0) => some (s, u)
  | _ => none
def pD (B : List UInt8) (at_ : Nat) : Option (List UInt8 × Nat) := match getD_ B at_ with
  | (s, u, 0) => some (s, u)
  | _ => none
def pB (B : List UInt8) (at_ : Nat) : Option (UInt8 × Nat) := if at_ < B.length then some (B.getD at_ 0, at_ + 1) else none
def pName (B : List UInt8) (m at_ : Nat) : Option (RName × Nat) := (pT B at_ m).bind fun s => (pD B s.2).map fun i => ((s.1, i.1), i.2)
def pEnt (B : List UInt8) (m at_ : Nat) : Option (EntV × Nat) := (pB B at_).bind fun k => (pT B k.2 m).bind fun s => (pD B s.2).bind fun o => (pD B o.2).bind fun n => (pT B n.2 256).map fun t => (⟨⟨k.1.toNat, s.1, o.1, n.1⟩, t.1⟩, t.2)
def pList {α : Type} (get : Nat → Option (α × Nat)) : Nat → Nat → Option (List α × Nat)
  | 0, at_ => some ([], at_)
  | n + 1, at_ => (get at_).bind fun x => (pList get n x.2).map fun l => (x.1 :: l.1, l.2)
def pNames (B : List UInt8) (m at_ : Nat) : Option (List RName × Nat) := (pN B at_ 64).bind fun n => pList (pName B m) n.1 n.2
def pLog (B : List UInt8) (m at_ : Nat) : Option (List EntV × Nat) := (pN B at_ 64).bind fun n => pList (pEnt B m) n.1 n.2
def readF (B : List UInt8) (m : Nat) : Option RefsV := (pNames B m 0).bind fun b => (pNames B m b.2).bind fun g => (pT B g.2 m).bind fun h => (pD B h.2).bind fun a => (pLog B m a.2).bind fun l =>
  if l.2 = B.length then some ⟨b.1, g.1, h.1, a.1, l.1⟩ else none
open Classical in
noncomputable def decRf (B : List UInt8) : RefsV × Nat := match readF B 32 with
  | some r => if RightV r then (r, 0) else (noRefs, 6)
  | none => (noRefs, 6)
open Classical in
noncomputable def encRf (r : RefsV) : List UInt8 × Nat := if RightV r then (writeF r, 0) else ([], 1)

/-! ### What was written is read -/
theorem pN_back (A R : List UInt8) {k m : Nat} (hm : k ≤ m) (h : m < 9223372036854775808) : pN (A ++ (numF k ++ R)) A.length m = some (k, A.length + (numF k).length) := by
  unfold pN
  rw [getI_back A R k (by omega)]
  simp only []
  rw [if_pos hm]
theorem getT_more {A R s : List UInt8} {m : Nat} (hs : s.length ≤ m) (h : m < 9223372036854775808) : getT (A ++ (numF s.length ++ (s ++ R))) (A.length : Int) (m : Int) = (s, A.length + (numF s.length).length + s.length, 0) := by
  unfold getT
  rw [getI_back A (s ++ R) s.length (by omega)]
  simp only []
  rw [if_neg (by omega), if_neg (by simp; omega)]
  rw [← List.append_assoc, ← List.append_assoc, show A.length + (numF s.length).length = (A ++ numF s.length).length from by simp, List.append_assoc (A ++ numF s.length), List.drop_left, List.take_left]
theorem pT_back (A R : List UInt8) {s : List UInt8} {m : Nat} (hm : s.length ≤ m) (h : m < 9223372036854775808) : pT (A ++ (txtRf s ++ R)) A.length m = some (s, A.length + (txtRf s).length) := by
  unfold pT txtRf
  rw [List.append_assoc, getT_more hm h]
  simp only [List.length_append]
  rw [Nat.add_assoc]
theorem pD_back (A R : List UInt8) {i : List UInt8} (hi : i.length = 32) : pD (A ++ (i ++ R)) A.length = some (i, A.length + i.length) := by
  unfold pD
  rw [getD_back A R i hi]
  show some (i, A.length + 32) = _
  rw [hi]
theorem pB_back (A R : List UInt8) (k : UInt8) : pB (A ++ ([k] ++ R)) A.length = some (k, A.length + 1) := by
  unfold pB
  rw [if_pos (by simp)]
  simp
theorem pName_back (A R : List UInt8) {x : RName} {m : Nat} (h : m < 9223372036854775808) (h1 : x.1.length ≤ m) (h2 : x.2.length = 32) : pName (A ++ (nameB x ++ R)) m A.length = some (x, A.length + (nameB x).length) := by
  unfold pName nameB
  rw [List.append_assoc, pT_back A _ h1 h]
  simp only [Option.bind_some]
  have e : A ++ (txtRf x.1 ++ (x.2 ++ R)) = (A ++ txtRf x.1) ++ (x.2 ++ R) := by rw [List.append_assoc]
  rw [e, show A.length + (txtRf x.1).length = (A ++ txtRf x.1).length from by simp, pD_back _ R h2]
  simp only [Option.map_some, List.length_append]
  rw [Nat.add_assoc]
theorem pEnt_back (A R : List UInt8) {x : EntV} {m : Nat} (h : m < 9223372036854775808) (h1 : x.upd.name.length ≤ m) (hx : UpOk x.upd) (hn : x.note.length ≤ 256) : pEnt (A ++ (entB x ++ R)) m A.length = some (x, A.length + (entB x).length) := by
  obtain ⟨⟨k, s, o, n⟩, t⟩ := x
  obtain ⟨hk, ho, hn'⟩ := hx
  simp only at h1 hk ho hn' hn
  unfold pEnt entB
  simp only []
  have e1 : A ++ ([UInt8.ofNat k] ++ (txtRf s ++ (o ++ (n ++ txtRf t))) ++ R) = A ++ ([UInt8.ofNat k] ++ (txtRf s ++ (o ++ (n ++ (txtRf t ++ R))))) := by simp only [List.append_assoc]
  rw [e1, pB_back]
  simp only [Option.bind_some]
  have e2 : A ++ ([UInt8.ofNat k] ++ (txtRf s ++ (o ++ (n ++ (txtRf t ++ R))))) = (A ++ [UInt8.ofNat k]) ++ (txtRf s ++ (o ++ (n ++ (txtRf t ++ R)))) := by simp only [List.append_assoc]
  rw [e2, show A.length + 1 = (A ++ [UInt8.ofNat k]).length from by simp, pT_back _ _ h1 h]
  simp only [Option.bind_some]
  have e3 : (A ++ [UInt8.ofNat k]) ++ (txtRf s ++ (o ++ (n ++ (txtRf t ++ R)))) = ((A ++ [UInt8.ofNat k]) ++ txtRf s) ++ (o ++ (n ++ (txtRf t ++ R))) := by simp only [List.append_assoc]
  rw [e3, show (A ++ [UInt8.ofNat k]).length + (txtRf s).length = ((A ++ [UInt8.ofNat k]) ++ txtRf s).length from by simp; omega, pD_back _ _ ho]
  simp only [Option.bind_some]
  have e4 : ((A ++ [UInt8.ofNat k]) ++ txtRf s) ++ (o ++ (n ++ (txtRf t ++ R))) = (((A ++ [UInt8.ofNat k]) ++ txtRf s) ++ o) ++ (n ++ (txtRf t ++ R)) := by simp only [List.append_assoc]
  rw [e4, show ((A ++ [UInt8.ofNat k]) ++ txtRf s).length + o.length = (((A ++ [UInt8.ofNat k]) ++ txtRf s) ++ o).length from List.length_append.symm, pD_back _ _ hn']
  simp only [Option.bind_some]
  have e5 : (((A ++ [UInt8.ofNat k]) ++ txtRf s) ++ o) ++ (n ++ (txtRf t ++ R)) = ((((A ++ [UInt8.ofNat k]) ++ txtRf s) ++ o) ++ n) ++ (txtRf t ++ R) := by simp only [List.append_assoc]
  rw [e5, show (((A ++ [UInt8.ofNat k]) ++ txtRf s) ++ o).length + n.length = ((((A ++ [UInt8.ofNat k]) ++ txtRf s) ++ o) ++ n).length from List.length_append.symm, pT_back _ _ hn (by omega)]
  simp only [Option.map_some]
  have e6 : (UInt8.ofNat k).toNat = k := by simp; omega
  rw [e6]
  congr 2
  simp only [List.length_append, List.length_cons, List.length_nil]
  omega
theorem pList_back {α : Type} (get : List UInt8 → Nat → Option (α × Nat)) (wr : α → List UInt8) (ok : α → Prop) (hb : ∀ A R x, ok x → get (A ++ (wr x ++ R)) A.length = some (x, A.length + (wr x).length)) :
    ∀ (L : List α) (A R : List UInt8), (∀ x ∈ L, ok x) → pList (get (A ++ (L.flatMap wr ++ R))) L.length A.length = some (L, A.length + (L.flatMap wr).length)
  | [], A, R, _ => by simp [pList]
  | x :: L, A, R, h => by
    have ih := pList_back get wr ok hb L (A ++ wr x) R (fun y hy => h y (List.mem_cons_of_mem _ hy))
    have e : A ++ ((x :: L).flatMap wr ++ R) = A ++ (wr x ++ (L.flatMap wr ++ R)) := by simp [List.append_assoc]
    have e2 : (A ++ wr x) ++ (L.flatMap wr ++ R) = A ++ (wr x ++ (L.flatMap wr ++ R)) := by simp [List.append_assoc]
    rw [List.length_cons]
    unfold pList
    rw [e, hb A _ x (h x List.mem_cons_self)]
    simp only [Option.bind_some]
    rw [e2, show (A ++ wr x).length = A.length + (wr x).length from by simp] at ih
    rw [ih]
    simp only [Option.map_some, List.flatMap_cons, List.length_append]
    rw [Nat.add_assoc]
theorem pNames_back (A R : List UInt8) {L : List RName} {m : Nat} (h : m < 9223372036854775808) (hl : L.length ≤ 64) (hL : ∀ x ∈ L, x.1.length ≤ m ∧ x.2.length = 32) : pNames (A ++ (listB L ++ R)) m A.length = some (L, A.length + (listB L).length) := by
  unfold pNames listB
  rw [List.append_assoc, pN_back A _ hl (by omega)]
  simp only [Option.bind_some]
  have e : A ++ (numF L.length ++ (namesB L ++ R)) = (A ++ numF L.length) ++ (L.flatMap nameB ++ R) := by rw [List.append_assoc]; rfl
  rw [e, show A.length + (numF L.length).length = (A ++ numF L.length).length from by simp, pList_back (fun B => pName B m) nameB (fun x => x.1.length ≤ m ∧ x.2.length = 32) (fun A R x hx => pName_back A R h hx.1 hx.2) L _ R hL]
  congr 2
  show _ = A.length + (numF L.length ++ L.flatMap nameB).length
  simp only [List.length_append]; omega
theorem pLog_back (A R : List UInt8) {L : List EntV} {m : Nat} (h : m < 9223372036854775808) (hl : L.length ≤ 64) (hL : ∀ x ∈ L, x.upd.name.length ≤ m ∧ UpOk x.upd ∧ x.note.length ≤ 256) : pLog (A ++ ((numF L.length ++ logB L) ++ R)) m A.length = some (L, A.length + (numF L.length ++ logB L).length) := by
  unfold pLog
  rw [List.append_assoc, pN_back A _ hl (by omega)]
  simp only [Option.bind_some]
  have e : A ++ (numF L.length ++ (logB L ++ R)) = (A ++ numF L.length) ++ (L.flatMap entB ++ R) := by rw [List.append_assoc]; rfl
  rw [e, show A.length + (numF L.length).length = (A ++ numF L.length).length from by simp, pList_back (fun B => pEnt B m) entB (fun x => x.upd.name.length ≤ m ∧ UpOk x.upd ∧ x.note.length ≤ 256) (fun A R x hx => pEnt_back A R h hx.1 hx.2.1 hx.2.2) L _ R hL]
  congr 2
  show _ = A.length + (numF L.length ++ L.flatMap entB).length
  simp only [List.length_append]; omega
/-- What may be, and its ids have their bytes. -/
def Full (r : RefsV) : Prop := (∀ x ∈ r.br, x.2.length = 32) ∧ (∀ x ∈ r.tg, x.2.length = 32) ∧ (∀ e ∈ r.log, UpOk e.upd) ∧ r.at_.length = 32
theorem note_len {s : List UInt8} (h : noteF s = true) : s.length ≤ 256 := by
  unfold noteF at h
  simp only [Bool.and_eq_true, decide_eq_true_eq] at h
  omega
theorem head_len32 {r : RefsV} (h : RightV r) : r.head.length ≤ 32 := by
  have h3 := h.2.2.1
  unfold headF at h3
  split at h3
  · rename_i h0; rw [h0]; decide
  · rw [Bool.and_eq_true] at h3; exact name_len h3.1
theorem read_write {r : RefsV} {m : Nat} (hm1 : 32 ≤ m) (hm : m < 9223372036854775808) (h : RightV r) (hf : Full r) : readF (writeF r) m = some r := by
  obtain ⟨h1, h2, h3, h4⟩ := h
  obtain ⟨f1, f2, f3, f4⟩ := hf
  have g1 : ∀ x ∈ r.br, x.1.length ≤ m ∧ x.2.length = 32 := fun x hx => ⟨by have := name_len (h1.2.1 x hx).1; omega, f1 x hx⟩
  have g2 : ∀ x ∈ r.tg, x.1.length ≤ m ∧ x.2.length = 32 := fun x hx => ⟨by have := name_len (h2.2.1 x hx).1; omega, f2 x hx⟩
  have g3 : ∀ x ∈ r.log, x.upd.name.length ≤ m ∧ UpOk x.upd ∧ x.note.length ≤ 256 := fun x hx => by
    have := h4.2 x hx
    unfold entF at this
    simp only [Bool.and_eq_true, decide_eq_true_eq] at this
    exact ⟨by omega, f3 x hx, note_len this.2⟩
  have gh : r.head.length ≤ m := by have := head_len32 ⟨h1, h2, h3, h4⟩; omega
  unfold readF writeF
  have e0 := pNames_back [] (listB r.tg ++ (txtRf r.head ++ (r.at_ ++ (numF r.log.length ++ logB r.log)))) (L := r.br) hm h1.1 g1
  rw [List.nil_append, List.length_nil, Nat.zero_add] at e0
  rw [e0]
  simp only [Option.bind_some]
  rw [pNames_back (listB r.br) _ hm h2.1 g2]
  simp only [Option.bind_some]
  have e2 : listB r.br ++ (listB r.tg ++ (txtRf r.head ++ (r.at_ ++ (numF r.log.length ++ logB r.log)))) = (listB r.br ++ listB r.tg) ++ (txtRf r.head ++ (r.at_ ++ (numF r.log.length ++ logB r.log))) := by simp only [List.append_assoc]
  rw [e2, show (listB r.br).length + (listB r.tg).length = (listB r.br ++ listB r.tg).length from by simp, pT_back _ _ gh hm]
  simp only [Option.bind_some]
  have e3 : (listB r.br ++ listB r.tg) ++ (txtRf r.head ++ (r.at_ ++ (numF r.log.length ++ logB r.log))) = ((listB r.br ++ listB r.tg) ++ txtRf r.head) ++ (r.at_ ++ (numF r.log.length ++ logB r.log)) := by simp only [List.append_assoc]
  rw [e3, show (listB r.br ++ listB r.tg).length + (txtRf r.head).length = ((listB r.br ++ listB r.tg) ++ txtRf r.head).length from List.length_append.symm, pD_back _ _ f4]
  simp only [Option.bind_some]
  have e4 : ((listB r.br ++ listB r.tg) ++ txtRf r.head) ++ (r.at_ ++ (numF r.log.length ++ logB r.log)) = (((listB r.br ++ listB r.tg) ++ txtRf r.head) ++ r.at_) ++ ((numF r.log.length ++ logB r.log) ++ []) := by simp only [List.append_assoc, List.append_nil]
  rw [e4, show ((listB r.br ++ listB r.tg) ++ txtRf r.head).length + r.at_.length = (((listB r.br ++ listB r.tg) ++ txtRf r.head) ++ r.at_).length from List.length_append.symm, pLog_back _ _ hm h4.1 g3]
  simp only [Option.bind_some]
  rw [if_pos (by simp only [List.length_append, List.append_nil])]
#print axioms read_write
end Go.Proofs.YtjjnbigfdonjlaaDoor
