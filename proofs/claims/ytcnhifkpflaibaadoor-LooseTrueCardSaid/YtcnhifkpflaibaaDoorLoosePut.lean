/-
  The walks of put and of Put.
-/
import Derived.Test.YtcnhifkpflaibaaDoorLooseTurn
namespace Go.Proofs.YtcnhifkpflaibaaDoor
open Go.RowKit Go.Maps

section
variable {w W W1 W2 W3 : World} {F F6 : Nat → Prop} {db : Nat} {S T : DS} {g3 g4 g6 : Nat} {a : Option Addr} {n c : Nat} {b : List UInt8} {v v' : List UInt8}
/-- What put has laid down, beside what was there. -/
structure PIn (W W1 : World) (db g3 g4 g6 : Nat) (a : Option Addr) (n c : Nat) (v : List UInt8) : Prop where
  bel : Below W.heap.size W W1
  c3 : W1.cell? ⟨g3, 0, none⟩ = some (Pt db)
  c4 : W1.cell? ⟨g4, 0, none⟩ = some (.slice a n c)
  id : IdAt W1 g6 v
/-- Where it lies. -/
structure PAt (W : World) (F : Nat → Prop) (g3 g4 g6 : Nat) : Prop where
  l3 : W.heap.size ≤ g3
  l4 : W.heap.size ≤ g4
  l6 : W.heap.size ≤ g6
  n36 : g3 ≠ g6
  n46 : g4 ≠ g6
theorem PAt.not {g : Nat} (R : Run w W F db S) (h : W.heap.size ≤ g) : ¬ F g := fun hF => by have := R.1.lt g hF; omega
theorem PIn.below (h : PIn W W1 db g3 g4 g6 a n c v) (hb : Below W1.heap.size W1 W2) : PIn W W2 db g3 g4 g6 a n c v :=
  ⟨h.bel.trans (hb.mono h.bel.size), (hb.cell (World.block_lt_of_cell? _ _ h.c3)).trans h.c3, (hb.cell (World.block_lt_of_cell? _ _ h.c4)).trans h.c4, h.id.chg (X := fun _ => False) (Chg.of_below hb) (fun e => e)⟩
theorem cell_grown {g o k : Nat} {u : Value} (h : W1.cell? ⟨g, o, none⟩ = some u) (hg : W1.grownBy W2 (some k)) (hne : g ≠ k) : W2.cell? ⟨g, o, none⟩ = some u := by
  have hl := World.block_lt_of_cell? _ _ h
  have e := hg.block g hl (fun e => hne (by cases e; rfl))
  simp only [World.cell?] at h ⊢
  rw [e]; exact h
theorem PIn.store (h : PIn W W1 db g3 g4 g6 a n c v) (P : PAt W F g3 g4 g6) (hg : W1.grownBy W2 (some g6)) (hid : IdAt W2 g6 v') : PIn W W2 db g3 g4 g6 a n c v' :=
  ⟨h.bel.grown hg h.bel.size (fun k hk => by cases hk; exact P.l6), cell_grown h.c3 hg P.n36, cell_grown h.c4 hg P.n46, hid⟩
theorem PIn.env (h : PIn W W1 db g3 g4 g6 a n c v) (P : PAt W F g3 g4 g6) (R : Run w W F db S) (hs : Safe F W a n c b) : Env w W1 F db S g3 g4 a n c b :=
  ⟨R.below h.bel, h.c3, h.c4, PAt.not R P.l3, PAt.not R P.l4, hs.below h.bel⟩
theorem pin_start (W : World) (db : Nat) (a : Option Addr) (n c : Nat) (hid : IdAt W1 ((W.alloc (.cells #[Pt db] 26)).alloc (.cells #[.slice a n c] 23)).heap.size v)
    (hb : Below ((W.alloc (.cells #[Pt db] 26)).alloc (.cells #[.slice a n c] 23)).heap.size ((W.alloc (.cells #[Pt db] 26)).alloc (.cells #[.slice a n c] 23)) W1) : PIn W W1 db W.heap.size (W.heap.size + 1) (W.heap.size + 1 + 1) a n c v := by
  have s1 : ∀ (w : World) (o : Obj), (w.alloc o).heap.size = w.heap.size + 1 := fun w o => by simp
  have b0 : Below W.heap.size W ((W.alloc (.cells #[Pt db] 26)).alloc (.cells #[.slice a n c] 23)) := ((Below.refl _ _).alloc (Nat.le_refl _) _).alloc (by simp) _
  have k3 : ((W.alloc (.cells #[Pt db] 26)).alloc (.cells #[.slice a n c] 23)).cell? ⟨W.heap.size, 0, none⟩ = some (Pt db) := by
    have h1 : (W.alloc (.cells #[Pt db] 26)).cell? ⟨W.heap.size, 0, none⟩ = some (Pt db) := by rw [World.cell?_alloc_new]; rfl
    exact (((Below.refl _ _).alloc (Nat.le_refl _) _).cell (World.block_lt_of_cell? _ _ h1)).trans h1
  have k4 : ((W.alloc (.cells #[Pt db] 26)).alloc (.cells #[.slice a n c] 23)).cell? ⟨W.heap.size + 1, 0, none⟩ = some (.slice a n c) := by
    rw [show W.heap.size + 1 = (W.alloc (.cells #[Pt db] 26)).heap.size from (s1 _ _).symm, World.cell?_alloc_new]
    rfl
  rw [s1, s1] at hid
  exact ⟨b0.trans (hb.mono b0.size), (hb.cell (World.block_lt_of_cell? _ _ k3)).trans k3, (hb.cell (World.block_lt_of_cell? _ _ k4)).trans k4, hid⟩
/-- What Put comes to. -/
def PutEnd (w W : World) (F : Nat → Prop) (db : Nat) (r : DS × List UInt8 × List UInt8 × Nat) (e : Ending) (W' : World) : Prop :=
  ∃ a n c F', e = .returned (.tuple #[.agg (idCells r.2.1), .slice a n c, .int .i64 (r.2.2.2 : Int)]) ∧ Safe F' W' a n c r.2.2.1 ∧ Run w W' F' db r.1 ∧ Step F W W' F' ∧ ∀ g off, a = some ⟨g, off, none⟩ → W.heap.size ≤ g
theorem run_grown {g : Nat} (R : Run w W1 F6 db T) (hs : Step F W W1 F6) (hg : W1.grownBy W2 (some g)) (hw : w.heap.size ≤ W.heap.size) (hgW : W.heap.size ≤ g) (hF : ¬ F6 g) : Run w W2 F6 db T ∧ Step F W W2 F6 := by
  have hne : ∀ k, k ≠ g → some k ≠ some g := fun k h e => h (by cases e; rfl)
  refine ⟨⟨R.1.same hg.size (fun k hk => hg.block k (R.1.lt k hk) (hne k (fun e => hF (e ▸ hk)))), R.2.1, R.2.2.grown hg R.2.2.size (fun k hk => by cases hk; omega)⟩, ⟨hs.chg.grown hg (fun k hk => by cases hk; exact .inr hgW), hs.more, hs.old⟩⟩
/-- The end, behind the acts. -/
theorem put_last {g : Nat} {r : DS × Nat} {id : List UInt8} (R : Run w W1 F6 db r.1) (hs : Step F W W1 F6) (hg : W1.grownBy W2 (some g)) (hw : w.heap.size ≤ W.heap.size) (hgW : W.heap.size ≤ g) (hF : ¬ F6 g) :
    (r.2 = 0 → PutEnd w W F db (finL id r) (.returned (.tuple #[.agg (idCells id), .slice none 0 0, .int .i64 0])) W2) ∧ (r.2 ≠ 0 → PutEnd w W F db (finL id r) (.returned (.tuple #[.agg (idCells zeroId), .slice none 0 0, .int .i64 (r.2 : Int)])) W2) := by
  obtain ⟨h1, h2⟩ := run_grown R hs hg hw hgW hF
  refine ⟨fun h => ?_, fun h => ?_⟩
  · unfold finL; rw [if_neg (by simp [h])]; exact ⟨none, 0, 0, F6, rfl, Safe.nil, h1, h2, fun g off e => by cases e⟩
  · unfold finL; rw [if_pos h]; exact ⟨none, 0, 0, F6, rfl, Safe.nil, h1, h2, fun g off e => by cases e⟩
theorem turn_out {o : Obj} {w6 : World} {id : List UInt8} (h : PIn W W1 db g3 g4 g6 a n c id) (P : PAt W F g3 g4 g6) (R : Run w W F db S) (hx : ∃ F', Run w w6 F' db T ∧ Step F (W1.alloc o) w6 F') : ∃ F', Run w w6 F' db T ∧ Step F W w6 F' ∧ IdAt w6 g6 id ∧ ¬ F' g6 := by
  obtain ⟨F', h1, h2⟩ := hx
  have hb : Below W1.heap.size W1 (W1.alloc o) := (Below.refl _ _).alloc (Nat.le_refl _) _
  have h3 := h.below hb
  exact ⟨F', h1, (Step.of_below h3.bel).trans h2, h3.id.chg h2.chg (PAt.not R P.l6), keep_not h3.id.lt (PAt.not R P.l6) h2⟩
theorem lo_read2 (R : Run w W F db S) (s : ByteArray) {r : List UInt8 × Nat} (hr : readS S s.data.toList = r) :
    Calls Tryd.prog 30 #[Pt db, .string s] W fun e W' => ∃ a n c, e = .returned (.tuple #[.slice a n c, .int .i64 (r.2 : Int)]) ∧ Safe F W' a n c r.1 ∧ Run w W' F db S ∧ Below W.heap.size W W' ∧ ∀ g off, a = some ⟨g, off, none⟩ → W.heap.size ≤ g :=
  (read_any s R.1).mono fun e W2 he => by
    subst hr
    obtain ⟨a, n, c, h1, h2, h3⟩ := he
    exact ⟨a, n, c, h1, Safe.fresh R.1.lt h2 (Nat.le_refl _), R.below h3, h3, fun g off e => (World.ownsRow.lt h2 g (by rw [e]; rfl)).1⟩
theorem Safe.grown {g : Nat} (h : Safe F W1 a n c b) (hg : W1.grownBy W2 (some g)) (hne : ∀ k off, a = some ⟨k, off, none⟩ → k ≠ g) : Safe F W2 a n c b :=
  ⟨h.1.later (X := fun k => k = g) (fun hn k off e hx => hne k off e hx) ((Chg.refl).grown hg (fun k hk => by cases hk; exact .inl rfl)), fun k off hn e => ⟨(h.2 k off hn e).1, Nat.lt_of_lt_of_le (h.2 k off hn e).2 hg.size⟩⟩
theorem acts_new (W : World) (vs : List Value) (T : TypeId) (cs : Array Value) (hcs : cs = vs.toArray) (j : Nat) (u : Value) (hu : vs[j]? = some u) : (W.alloc (.cells cs T)).cell? ⟨W.heap.size, j, none⟩ = some u := by
  subst hcs
  rw [World.cell?_alloc_new]
  simpa using hu

set_option maxRecDepth 100000 in
set_option maxHeartbeats 8000000 in
theorem put_any9 (hs : Safe F W a n c b) (R : Run w W F db S) (hT : Tables w) (hl : b.length ≤ 262144) {k : Nat} (hf : Few S k) (hk : k ≤ 900000) {r : DS × List UInt8 × List UInt8 × Nat}
    (hr : putB sumF S b (sumF b) (fileN (sumF b)) (readS S (fileN (sumF b))) = r) :
    Calls Tryd.prog 26 #[Pt db, .slice a n c, .func (.func 13) #[] #[]] W (PutEnd w W F db r) := by
  obtain ⟨id, hid⟩ : ∃ id, sumF b = id := ⟨_, rfl⟩
  rw [hid] at hr
  have HIL := Lib.hid (show id.length = 32 from hid ▸ sumF_length b)
  have SM := Lib.hid (fun (W' : World) (hb : Below w.heap.size w W') a n c (h : Bytes W' a n c b) => sum_box h (hT.below hb) (by omega) hid)
  obtain ⟨s, hsn⟩ : ∃ s, strB (fileN id) = s := ⟨_, rfl⟩
  have FA := Lib.hid (fun W' => file_any id HIL.out W' hsn)
  have hsl : s.data.toList = fileN id := by rw [← hsn, strB_list]
  obtain ⟨rr, hrr⟩ : ∃ rr, readS S (fileN id) = rr := ⟨_, rfl⟩
  have RD := Lib.hid (fun W' (R' : Run w W' F db S) => lo_read2 R' s (r := rr) (by rw [hsl]; exact hrr))
  have HLE := Lib.hid (show rr.1.length ≤ 1073741824 from by
    rw [← hrr]
    exact Nat.le_trans (read_le R.1.1 _) R.1.1.most)
  have SM4 := Lib.hid (fun (W' : World) (hb : Below w.heap.size w W') a n c (h : Bytes W' a n c rr.1) => sum_box h (hT.below hb) (by have := HLE.out; omega) (id := sumF rr.1) rfl)
  have HRL := Lib.hid (sumF_length rr.1)
  rw [hrr] at hr
  obtain ⟨rb, z⟩ := rr
  simp only at RD HLE SM4 HRL
  have HS := Lib.hid hs
  have HR := Lib.hid R
  have HSZ := Lib.hid R.2.2.size
  have HP := Lib.hid (show PAt W F W.heap.size (W.heap.size + 1) (W.heap.size + 1 + 1) from ⟨by omega, by omega, by omega, by omega, by omega⟩)
  have ST := Lib.hid (fun W1 v h1 h2 => (pin_start (W1 := W1) (v := v) W db a n c h1 h2))
  have TU := Lib.hid (fun (W' : World) (h : PIn W W' db W.heap.size (W.heap.size + 1) (W.heap.size + 1 + 1) a n c id) (ks : List K3) (cs : Array Value) (hcs : cs = (ks.map (valK db W.heap.size (W.heap.size + 1))).toArray) (hks : ks.length ≤ 3) (r : DS × Nat) (hr : chain S (ks.map (actK3 s.data.toList b)) = r) =>
    (show Calls Tryd.prog 48 #[.string s, .slice (some ⟨W'.heap.size, 0, none⟩) ks.length ks.length] (W'.alloc (.cells cs 83)) (ActEnd w (W'.alloc (.cells cs 83)) F db r) from by
      have hb : Below W'.heap.size W' (W'.alloc (.cells cs 83)) := (Below.refl _ _).alloc (Nat.le_refl _) _
      exact inTurn_any ks s W'.heap.size (((h.env HP.out HR.out HS.out)).below hb) (fun j hj => acts_new W' (ks.map (valK db W.heap.size (W.heap.size + 1))) _ cs hcs j _ (by simp [List.getD, hj])) (PAt.not (HR.out.below h.bel) (Nat.le_refl _)) hf (by omega) rfl hr))
  have ha : ∀ k, actK3 s.data.toList b k = (match k with | .app => appA (fileN id) b | .syn => synA (fileN id) | .rem => remA (fileN id)) := fun k => by cases k <;> simp [actK3, hsl]
  have TW := Lib.hid (fun (W' : World) (h : PIn W W' db W.heap.size (W.heap.size + 1) (W.heap.size + 1 + 1) a n c id) (r : DS × Nat) (hr : chain S [appA (fileN id) b, synA (fileN id)] = r) => (show Calls Tryd.prog 48 #[.string s, .slice (some ⟨W'.heap.size, 0, none⟩) 2 2] (W'.alloc (.cells #[.func (.func 47) #[] #[Pt W.heap.size, Pt (W.heap.size + 1)], .func (.func 49) #[Pt db] #[]] 83)) (ActEnd w (W'.alloc (.cells #[.func (.func 47) #[] #[Pt W.heap.size, Pt (W.heap.size + 1)], .func (.func 49) #[Pt db] #[]] 83)) F db r) from TU.out W' h [.app, .syn] _ rfl (by decide) r (by simp only [List.map_cons, List.map_nil, ha]; exact hr)))
  have TS := Lib.hid (fun (W' : World) (h : PIn W W' db W.heap.size (W.heap.size + 1) (W.heap.size + 1 + 1) a n c id) (r : DS × Nat) (hr : chain S [synA (fileN id)] = r) => (show Calls Tryd.prog 48 #[.string s, .slice (some ⟨W'.heap.size, 0, none⟩) 1 1] (W'.alloc (.cells #[.func (.func 49) #[Pt db] #[]] 83)) (ActEnd w (W'.alloc (.cells #[.func (.func 49) #[Pt db] #[]] 83)) F db r) from TU.out W' h [.syn] _ rfl (by decide) r (by simp only [List.map_cons, List.map_nil, ha]; exact hr)))
  have TR := Lib.hid (fun (W' : World) (h : PIn W W' db W.heap.size (W.heap.size + 1) (W.heap.size + 1 + 1) a n c id) (r : DS × Nat) (hr : chain S [remA (fileN id), appA (fileN id) b, synA (fileN id)] = r) => (show Calls Tryd.prog 48 #[.string s, .slice (some ⟨W'.heap.size, 0, none⟩) 3 3] (W'.alloc (.cells #[.func (.func 43) #[Pt db] #[], .func (.func 47) #[] #[Pt W.heap.size, Pt (W.heap.size + 1)], .func (.func 49) #[Pt db] #[]] 83)) (ActEnd w (W'.alloc (.cells #[.func (.func 43) #[Pt db] #[], .func (.func 47) #[] #[Pt W.heap.size, Pt (W.heap.size + 1)], .func (.func 49) #[Pt db] #[]] 83)) F db r) from TU.out W' h [.rem, .app, .syn] _ rfl (by decide) r (by simp only [List.map_cons, List.map_nil, ha]; exact hr)))
  have HRR := Lib.hid hr
  clear hs R hT hl hf hk hid hsn hsl hrr ha TU hr
  by_cases h4 : z = 4
  · subst h4
    obtain ⟨q, hq⟩ : ∃ q, chain S [appA (fileN id) b, synA (fileN id)] = q := ⟨_, rfl⟩
    have HE := Lib.hid (show r = finL id q by have := HRR.out; unfold putB at this; rw [if_pos rfl, hq] at this; exact this.symm)
    have TT := Lib.hid (fun W' h => TW.out W' h q hq)
    obtain ⟨T, zz⟩ := q
    clear hq TW TS TR HRR
    by_cases hz : zz = 0
    · subst hz
      go_enter Tryd.func26, Tryd.ntmps26
      go_wp2_with (first
        | ((with_reducible show wpList _ _ _ (⟨some 6, _, _, _, _, _⟩ :: _) _ _); refine alloc_id rfl rfl ?_; intro w1 hid1 hb1 hs1; have HA1 := Lib.hid (ST.out w1 idZero hid1 hb1); have c3 := HA1.out.c3; have c4 := HA1.out.c4; clear hb1 hs1 hid1)
        | (go_at_call 13; (refine (SM.out w1 (HR.out.below HA1.out.bel).2.2 _ _ _ (HS.out.below HA1.out.bel).1).mono ?_); rintro e w2 ⟨rfl, hb2⟩; have HA2 := Lib.hid (HA1.out.below hb2); have c3 := HA2.out.c3; have c4 := HA2.out.c4; clear hb2)
        | ((with_reducible show wpList _ _ _ (⟨none, .store 35 (.tmp 6) (.tmp 15), _, _, _, _⟩ :: _) _ _); refine store_id rfl (.tmp 6) (.tmp 15) rfl _ _ id rfl rfl HA2.out.id HIL.out ?_; intro w3 hid3 hg3 hs3; have HA3 := Lib.hid (HA2.out.store HP.out hg3 hid3); have c3 := HA3.out.c3; have c4 := HA3.out.c4; clear hg3 hs3 hid3)
        | ((with_reducible show wpList _ _ _ (⟨some 16, _, _, _, _, _⟩ :: _) _ _); refine load_id rfl (.tmp 6) rfl _ _ rfl HA3.out.id ?_)
        | (go_at_call 31; (with_reducible refine (FA.out _).mono ?_); rintro e w5 ⟨rfl, hb5⟩; have HA5 := Lib.hid (HA3.out.below hb5); have c3 := HA5.out.c3; have c4 := HA5.out.c4; clear hb5)
        | (go_at_call 30; (with_reducible refine (RD.out _ (HR.out.below HA5.out.bel)).mono ?_); rintro e w4 ⟨a4, n4, c4', rfl, hsf, hr4, hb4, hnw⟩; have HNW := Lib.hid hnw; have HA4 := Lib.hid (HA5.out.below hb4); have HSF4 := Lib.hid hsf; have c3 := HA4.out.c3; have c4 := HA4.out.c4; clear hsf hr4 hb4 hnw)
        | (go_at_call 48; (refine (TT.out _ HA4.out).mono ?_); rintro e w6 ⟨rfl, hx6⟩; obtain ⟨F6, hr6, hs6, hi6, hn6⟩ := turn_out HA4.out HP.out HR.out hx6; have R6 := Lib.hid hr6; have S6 := Lib.hid hs6; have I6 := Lib.hid hi6; have N6 := Lib.hid hn6; clear hx6 hr6 hs6 hi6 hn6)
        | ((with_reducible show wpList _ _ _ (⟨some 67, _, _, _, _, _⟩ :: _) _ _); refine load_id rfl (.tmp 6) rfl _ _ rfl I6.out ?_)
        | ((with_reducible show wpList _ _ _ (⟨none, .store 35 (.tmp 6) (.tmp 67), _, _, _, _⟩ :: _) _ _); refine store_id rfl (.tmp 6) (.tmp 67) rfl _ _ id rfl rfl I6.out HIL.out ?_; intro w7 hid7 hg7 hs7))
      exact bodyPost_ret (results_id3 rfl _ _ (W.heap.size + 1 + 1) _ rfl hid7) rfl (by rw [HE.out]; exact (put_last (r := (T, 0)) R6.out S6.out hg7 HSZ.out HP.out.l6 N6.out).1 rfl)
    · have HZ := Lib.hid hz
      have kz : ((zz : Int) != 0) = true := by simp; omega
      clear hz
      go_enter Tryd.func26, Tryd.ntmps26
      go_wp2_with (first
        | ((with_reducible show wpList _ _ _ (⟨some 6, _, _, _, _, _⟩ :: _) _ _); refine alloc_id rfl rfl ?_; intro w1 hid1 hb1 hs1; have HA1 := Lib.hid (ST.out w1 idZero hid1 hb1); have c3 := HA1.out.c3; have c4 := HA1.out.c4; clear hb1 hs1 hid1)
        | (go_at_call 13; (refine (SM.out w1 (HR.out.below HA1.out.bel).2.2 _ _ _ (HS.out.below HA1.out.bel).1).mono ?_); rintro e w2 ⟨rfl, hb2⟩; have HA2 := Lib.hid (HA1.out.below hb2); have c3 := HA2.out.c3; have c4 := HA2.out.c4; clear hb2)
        | ((with_reducible show wpList _ _ _ (⟨none, .store 35 (.tmp 6) (.tmp 15), _, _, _, _⟩ :: _) _ _); refine store_id rfl (.tmp 6) (.tmp 15) rfl _ _ id rfl rfl HA2.out.id HIL.out ?_; intro w3 hid3 hg3 hs3; have HA3 := Lib.hid (HA2.out.store HP.out hg3 hid3); have c3 := HA3.out.c3; have c4 := HA3.out.c4; clear hg3 hs3 hid3)
        | ((with_reducible show wpList _ _ _ (⟨some 16, _, _, _, _, _⟩ :: _) _ _); refine load_id rfl (.tmp 6) rfl _ _ rfl HA3.out.id ?_)
        | (go_at_call 31; (with_reducible refine (FA.out _).mono ?_); rintro e w5 ⟨rfl, hb5⟩; have HA5 := Lib.hid (HA3.out.below hb5); have c3 := HA5.out.c3; have c4 := HA5.out.c4; clear hb5)
        | (go_at_call 30; (with_reducible refine (RD.out _ (HR.out.below HA5.out.bel)).mono ?_); rintro e w4 ⟨a4, n4, c4', rfl, hsf, hr4, hb4, hnw⟩; have HNW := Lib.hid hnw; have HA4 := Lib.hid (HA5.out.below hb4); have HSF4 := Lib.hid hsf; have c3 := HA4.out.c3; have c4 := HA4.out.c4; clear hsf hr4 hb4 hnw)
        | (go_at_call 48; (refine (TT.out _ HA4.out).mono ?_); rintro e w6 ⟨rfl, hx6⟩; obtain ⟨F6, hr6, hs6, hi6, hn6⟩ := turn_out HA4.out HP.out HR.out hx6; have R6 := Lib.hid hr6; have S6 := Lib.hid hs6; have I6 := Lib.hid hi6; have N6 := Lib.hid hn6; clear hx6 hr6 hs6 hi6 hn6)
        | ((with_reducible show wpList _ _ _ (⟨some 65, _, _, _, _, _⟩ :: _) _ _); refine build_id rfl rfl ?_)
        | ((with_reducible show wpList _ _ _ (⟨none, .store 35 (.tmp 6) (.tmp 65), _, _, _, _⟩ :: _) _ _); refine store_id rfl (.tmp 6) (.tmp 65) rfl _ _ idZero rfl rfl I6.out idZero_length ?_; intro w7 hid7 hg7 hs7))
      exact bodyPost_ret (results_id3 rfl _ _ (W.heap.size + 1 + 1) _ rfl hid7) rfl (by rw [HE.out]; exact (put_last (r := (T, zz)) R6.out S6.out hg7 HSZ.out HP.out.l6 N6.out).2 HZ.out)
  have k4 : ((z : Int) == 4) = false := by simp; omega
  by_cases h0 : z = 0
  · subst h0
    by_cases hb : rb = b
    · have EQ := Lib.hid (fun W' a n c a' n' c' (h1 : Bytes W' a n c rb) (h2 : Bytes W' a' n' c' b) => equal_any h1 h2 (decide_eq_true hb))
      obtain ⟨q, hq⟩ : ∃ q, chain S [synA (fileN id)] = q := ⟨_, rfl⟩
      have HE := Lib.hid (show r = finL id q by have := HRR.out; unfold putB at this; rw [if_neg (by simp), if_neg (by simp), if_pos hb, hq] at this; exact this.symm)
      have TT := Lib.hid (fun W' h => TS.out W' h q hq)
      obtain ⟨T, zz⟩ := q
      clear hq TW TS TR HRR
      by_cases hz : zz = 0
      · subst hz
        go_enter Tryd.func26, Tryd.ntmps26
        go_wp2_with (first
          | ((with_reducible show wpList _ _ _ (⟨some 6, _, _, _, _, _⟩ :: _) _ _); refine alloc_id rfl rfl ?_; intro w1 hid1 hb1 hs1; have HA1 := Lib.hid (ST.out w1 idZero hid1 hb1); have c3 := HA1.out.c3; have c4 := HA1.out.c4; clear hb1 hs1 hid1)
          | (go_at_call 13; (refine (SM.out w1 (HR.out.below HA1.out.bel).2.2 _ _ _ (HS.out.below HA1.out.bel).1).mono ?_); rintro e w2 ⟨rfl, hb2⟩; have HA2 := Lib.hid (HA1.out.below hb2); have c3 := HA2.out.c3; have c4 := HA2.out.c4; clear hb2)
          | ((with_reducible show wpList _ _ _ (⟨none, .store 35 (.tmp 6) (.tmp 15), _, _, _, _⟩ :: _) _ _); refine store_id rfl (.tmp 6) (.tmp 15) rfl _ _ id rfl rfl HA2.out.id HIL.out ?_; intro w3 hid3 hg3 hs3; have HA3 := Lib.hid (HA2.out.store HP.out hg3 hid3); have c3 := HA3.out.c3; have c4 := HA3.out.c4; clear hg3 hs3 hid3)
          | ((with_reducible show wpList _ _ _ (⟨some 16, _, _, _, _, _⟩ :: _) _ _); refine load_id rfl (.tmp 6) rfl _ _ rfl HA3.out.id ?_)
          | (go_at_call 31; (with_reducible refine (FA.out _).mono ?_); rintro e w5 ⟨rfl, hb5⟩; have HA5 := Lib.hid (HA3.out.below hb5); have c3 := HA5.out.c3; have c4 := HA5.out.c4; clear hb5)
          | (go_at_call 30; (with_reducible refine (RD.out _ (HR.out.below HA5.out.bel)).mono ?_); rintro e w4 ⟨a4, n4, c4', rfl, hsf, hr4, hb4, hnw⟩; have HNW := Lib.hid hnw; have HA4 := Lib.hid (HA5.out.below hb4); have HSF4 := Lib.hid hsf; have c3 := HA4.out.c3; have c4 := HA4.out.c4; clear hsf hr4 hb4 hnw)
          | (go_at_call 50; (refine (EQ.out _ _ _ _ _ _ _ HSF4.out.1 (HS.out.below HA4.out.bel).1).mono ?_); rintro e w5 ⟨rfl, rfl⟩)
          | (go_at_call 48; (refine (TT.out _ HA4.out).mono ?_); rintro e w6 ⟨rfl, hx6⟩; obtain ⟨F6, hr6, hs6, hi6, hn6⟩ := turn_out HA4.out HP.out HR.out hx6; have R6 := Lib.hid hr6; have S6 := Lib.hid hs6; have I6 := Lib.hid hi6; have N6 := Lib.hid hn6; clear hx6 hr6 hs6 hi6 hn6)
          | ((with_reducible show wpList _ _ _ (⟨some 67, _, _, _, _, _⟩ :: _) _ _); refine load_id rfl (.tmp 6) rfl _ _ rfl I6.out ?_)
          | ((with_reducible show wpList _ _ _ (⟨none, .store 35 (.tmp 6) (.tmp 67), _, _, _, _⟩ :: _) _ _); refine store_id rfl (.tmp 6) (.tmp 67) rfl _ _ id rfl rfl I6.out HIL.out ?_; intro w7 hid7 hg7 hs7))
        exact bodyPost_ret (results_id3 rfl _ _ (W.heap.size + 1 + 1) _ rfl hid7) rfl (by rw [HE.out]; exact (put_last (r := (T, 0)) R6.out S6.out hg7 HSZ.out HP.out.l6 N6.out).1 rfl)
      · have HZ := Lib.hid hz
        have kz : ((zz : Int) != 0) = true := by simp; omega
        clear hz
        go_enter Tryd.func26, Tryd.ntmps26
        go_wp2_with (first
          | ((with_reducible show wpList _ _ _ (⟨some 6, _, _, _, _, _⟩ :: _) _ _); refine alloc_id rfl rfl ?_; intro w1 hid1 hb1 hs1; have HA1 := Lib.hid (ST.out w1 idZero hid1 hb1); have c3 := HA1.out.c3; have c4 := HA1.out.c4; clear hb1 hs1 hid1)
          | (go_at_call 13; (refine (SM.out w1 (HR.out.below HA1.out.bel).2.2 _ _ _ (HS.out.below HA1.out.bel).1).mono ?_); rintro e w2 ⟨rfl, hb2⟩; have HA2 := Lib.hid (HA1.out.below hb2); have c3 := HA2.out.c3; have c4 := HA2.out.c4; clear hb2)
          | ((with_reducible show wpList _ _ _ (⟨none, .store 35 (.tmp 6) (.tmp 15), _, _, _, _⟩ :: _) _ _); refine store_id rfl (.tmp 6) (.tmp 15) rfl _ _ id rfl rfl HA2.out.id HIL.out ?_; intro w3 hid3 hg3 hs3; have HA3 := Lib.hid (HA2.out.store HP.out hg3 hid3); have c3 := HA3.out.c3; have c4 := HA3.out.c4; clear hg3 hs3 hid3)
          | ((with_reducible show wpList _ _ _ (⟨some 16, _, _, _, _, _⟩ :: _) _ _); refine load_id rfl (.tmp 6) rfl _ _ rfl HA3.out.id ?_)
          | (go_at_call 31; (with_reducible refine (FA.out _).mono ?_); rintro e w5 ⟨rfl, hb5⟩; have HA5 := Lib.hid (HA3.out.below hb5); have c3 := HA5.out.c3; have c4 := HA5.out.c4; clear hb5)
          | (go_at_call 30; (with_reducible refine (RD.out _ (HR.out.below HA5.out.bel)).mono ?_); rintro e w4 ⟨a4, n4, c4', rfl, hsf, hr4, hb4, hnw⟩; have HNW := Lib.hid hnw; have HA4 := Lib.hid (HA5.out.below hb4); have HSF4 := Lib.hid hsf; have c3 := HA4.out.c3; have c4 := HA4.out.c4; clear hsf hr4 hb4 hnw)
          | (go_at_call 50; (refine (EQ.out _ _ _ _ _ _ _ HSF4.out.1 (HS.out.below HA4.out.bel).1).mono ?_); rintro e w5 ⟨rfl, rfl⟩)
          | (go_at_call 48; (refine (TT.out _ HA4.out).mono ?_); rintro e w6 ⟨rfl, hx6⟩; obtain ⟨F6, hr6, hs6, hi6, hn6⟩ := turn_out HA4.out HP.out HR.out hx6; have R6 := Lib.hid hr6; have S6 := Lib.hid hs6; have I6 := Lib.hid hi6; have N6 := Lib.hid hn6; clear hx6 hr6 hs6 hi6 hn6)
          | ((with_reducible show wpList _ _ _ (⟨some 65, _, _, _, _, _⟩ :: _) _ _); refine build_id rfl rfl ?_)
          | ((with_reducible show wpList _ _ _ (⟨none, .store 35 (.tmp 6) (.tmp 65), _, _, _, _⟩ :: _) _ _); refine store_id rfl (.tmp 6) (.tmp 65) rfl _ _ idZero rfl rfl I6.out idZero_length ?_; intro w7 hid7 hg7 hs7))
        exact bodyPost_ret (results_id3 rfl _ _ (W.heap.size + 1 + 1) _ rfl hid7) rfl (by rw [HE.out]; exact (put_last (r := (T, zz)) R6.out S6.out hg7 HSZ.out HP.out.l6 N6.out).2 HZ.out)
    · have EQ := Lib.hid (fun W' a n c a' n' c' (h1 : Bytes W' a n c rb) (h2 : Bytes W' a' n' c' b) => equal_any h1 h2 (decide_eq_false hb))
      obtain ⟨q2, hq2⟩ : ∃ q2, decide (sumF rb = id) = q2 := ⟨_, rfl⟩
      have HQX := Lib.hid hq2
      cases q2 with
      | true =>
        have HE := Lib.hid (show r = (S, id, rb, 7) by have := HRR.out; unfold putB at this; rw [if_neg (by simp), if_neg (by simp), if_neg hb, if_pos (of_decide_eq_true hq2)] at this; exact this.symm)
        clear hb hq2 TW TS TR HRR
        go_enter Tryd.func26, Tryd.ntmps26
        go_wp2_with (first
          | ((with_reducible show wpList _ _ _ (⟨some 6, _, _, _, _, _⟩ :: _) _ _); refine alloc_id rfl rfl ?_; intro w1 hid1 hb1 hs1; have HA1 := Lib.hid (ST.out w1 idZero hid1 hb1); have c3 := HA1.out.c3; have c4 := HA1.out.c4; clear hb1 hs1 hid1)
          | (go_at_call 13; (refine (SM.out w1 (HR.out.below HA1.out.bel).2.2 _ _ _ (HS.out.below HA1.out.bel).1).mono ?_); rintro e w2 ⟨rfl, hb2⟩; have HA2 := Lib.hid (HA1.out.below hb2); have c3 := HA2.out.c3; have c4 := HA2.out.c4; clear hb2)
          | ((with_reducible show wpList _ _ _ (⟨none, .store 35 (.tmp 6) (.tmp 15), _, _, _, _⟩ :: _) _ _); refine store_id rfl (.tmp 6) (.tmp 15) rfl _ _ id rfl rfl HA2.out.id HIL.out ?_; intro w3 hid3 hg3 hs3; have HA3 := Lib.hid (HA2.out.store HP.out hg3 hid3); have c3 := HA3.out.c3; have c4 := HA3.out.c4; clear hg3 hs3 hid3)
          | ((with_reducible show wpList _ _ _ (⟨some 16, _, _, _, _, _⟩ :: _) _ _); refine load_id rfl (.tmp 6) rfl _ _ rfl HA3.out.id ?_)
          | (go_at_call 31; (with_reducible refine (FA.out _).mono ?_); rintro e w5 ⟨rfl, hb5⟩; have HA5 := Lib.hid (HA3.out.below hb5); have c3 := HA5.out.c3; have c4 := HA5.out.c4; clear hb5)
          | (go_at_call 30; (with_reducible refine (RD.out _ (HR.out.below HA5.out.bel)).mono ?_); rintro e w4 ⟨a4, n4, c4', rfl, hsf, hr4, hb4, hnw⟩; have HNW := Lib.hid hnw; have HA4 := Lib.hid (HA5.out.below hb4); have HSF4 := Lib.hid hsf; have c3 := HA4.out.c3; have c4 := HA4.out.c4; clear hsf hr4 hb4 hnw)
          | (go_at_call 50; (refine (EQ.out _ _ _ _ _ _ _ HSF4.out.1 (HS.out.below HA4.out.bel).1).mono ?_); rintro e w5 ⟨rfl, rfl⟩))
        refine wp_region_held_drew (S := fun W => Below w4.heap.size w4 W) (by kernel_rfl) (Below.refl _ _).drew (fun hHeld => ?_)
        refine wpAnyH_take (i := 0) (oi := ⟨some 55, .move (.tmp 2), _, _, _, _⟩) (v := (.func (.func 13) #[] #[])) rfl (by kernel_rfl) (by kernel_rfl) (by kernel_rfl) (fun _ _ _ h => h) (Or.inl ⟨by rfl, fun W hW => by go_simp⟩) (by assumption) ?_
        simp only [Act.put, List.setIfInBounds_toArray, List.set_cons_zero, List.set_cons_succ]
        refine wpAnyH_take (i := 1) (oi := ⟨some 56, .move (.tmp 11), _, _, _, _⟩) (v := (.slice a4 n4 c4')) rfl (by kernel_rfl) (by kernel_rfl) (by kernel_rfl) (fun _ _ _ h => h) (Or.inl ⟨by rfl, fun W hW => by go_simp⟩) (by assumption) ?_
        simp only [Act.put, List.setIfInBounds_toArray, List.set_cons_zero, List.set_cons_succ]
        refine wpAnyH_take (i := 4) (oi := ⟨some 59, .load 35 (.tmp 6), _, _, _, _⟩) (v := (.agg (idCells id))) rfl (by kernel_rfl) (by kernel_rfl) (by kernel_rfl) (fun _ _ _ h => h) (Or.inl ⟨by rfl, fun W hW => exec_loadId _ rfl _ _ _ HIL.out rfl ((HA4.out.below hW).id).range⟩) (by assumption) ?_
        simp only [Act.put, List.setIfInBounds_toArray, List.set_cons_zero, List.set_cons_succ]
        refine wpAnyH_ready (rs := [2]) (by kernel_rfl) (by simp) ?_
        refine AllReadyH.cons (o := ⟨some 57, .buildSlice 65 1 #[(0, (.tmp 56))], _, _, _, _⟩) rfl (fun K hK => ?_) AllReadyH.nil
        go_simp
        have HS5 := Lib.hid ((Below.refl w4.heap.size w4).drew.alloc (Nat.le_refl _) (.cells #[.slice a4 n4 c4'] 23))
        refine hK.out _ _ HS5.out (fun hHeld => ?_)
        clear hK K
        refine wpAnyH_ready (rs := [3]) (by kernel_rfl) (by simp) ?_
        refine AllReadyH.cons (o := ⟨some 58, .call { callee := .value (.tmp 55), args := #[(.tmp 57)], argTypes := #[65] }, _, _, _, _⟩) rfl (fun K hK => ?_) AllReadyH.nil
        go_simp
        go_wp2_with (go_at_call 13; (refine (SM4.out w4.drew (HR.out.below HA4.out.bel).2.2.drew a4 n4 c4' HSF4.out.1).mono ?_); rintro e w5 ⟨rfl, hb5⟩; have HB5 : Hid (Below w4.heap.size w4 w5) := Lib.hid ((Below.refl w4.heap.size w4).drew.trans hb5); clear hb5)
        refine hK.out _ _ HB5.out (fun hHeld => ?_)
        clear hK K
        refine wpAnyH_take (i := 5) (oi := ⟨some 60, .binOp .eql 35 (.tmp 58) (.tmp 59) 35, _, _, _, _⟩) (v := (.bool true)) rfl (by kernel_rfl) (by kernel_rfl) (by kernel_rfl) (fun _ _ _ h => h) (Or.inl ⟨by rfl, fun W hW => by rw [← HQX.out]; exact exec_eqlId _ _ _ rfl _ _ HRL.out HIL.out rfl rfl⟩) (by assumption) ?_
        simp only [Act.put, List.setIfInBounds_toArray, List.set_cons_zero, List.set_cons_succ]
        refine wpAnyH_take (i := 6) (oi := ⟨some 54, .assign (.tmp 60), _, _, _, _⟩) (v := (.bool true)) rfl (by kernel_rfl) (by kernel_rfl) (by kernel_rfl) (fun _ _ _ h => h) (Or.inl ⟨by rfl, fun W hW => by go_simp⟩) (by assumption) ?_
        simp only [Act.put, List.setIfInBounds_toArray, List.set_cons_zero, List.set_cons_succ]
        refine wpAnyH_done (by kernel_rfl) ?_ _
        have HA6 := Lib.hid (HA4.out.below HB5.out)
        go_wp2_with (first
          | ((with_reducible show wpList _ _ _ (⟨some 61, _, _, _, _, _⟩ :: _) _ _); refine load_id rfl (.tmp 6) rfl _ _ rfl HA6.out.id ?_)
          | ((with_reducible show wpList _ _ _ (⟨none, .store 35 (.tmp 6) (.tmp 61), _, _, _, _⟩ :: _) _ _); refine store_id rfl (.tmp 6) (.tmp 61) rfl _ _ id rfl rfl HA6.out.id HIL.out ?_; intro w7 hid7 hg7 hs7))
        have HF := Lib.hid (run_grown (HR.out.below HA6.out.bel) (Step.of_below HA6.out.bel) hg7 HSZ.out HP.out.l6 (PAt.not HR.out HP.out.l6))
        have HSF7 := Lib.hid ((HSF4.out.below HB5.out).grown hg7 (fun k off e => by have := HNW.out k off e; have := HA5.out.id.lt; omega))
        exact bodyPost_ret (results_id3 rfl _ _ (W.heap.size + 1 + 1) _ rfl hid7) rfl (by rw [HE.out]; exact ⟨a4, n4, c4', F, rfl, HSF7.out, HF.out.1, HF.out.2, fun k off e => Nat.le_trans HA5.out.bel.size (HNW.out k off e)⟩)
      | false =>
        obtain ⟨q, hq⟩ : ∃ q, chain S [remA (fileN id), appA (fileN id) b, synA (fileN id)] = q := ⟨_, rfl⟩
        have HE := Lib.hid (show r = finL id q by have := HRR.out; unfold putB at this; rw [if_neg (by simp), if_neg (by simp), if_neg hb, if_neg (of_decide_eq_false hq2), hq] at this; exact this.symm)
        have TT := Lib.hid (fun W' h => TR.out W' h q hq)
        obtain ⟨T, zz⟩ := q
        clear hq TW TS TR HRR
        by_cases hz : zz = 0
        · subst hz
          go_enter Tryd.func26, Tryd.ntmps26
          go_wp2_with (first
            | ((with_reducible show wpList _ _ _ (⟨some 6, _, _, _, _, _⟩ :: _) _ _); refine alloc_id rfl rfl ?_; intro w1 hid1 hb1 hs1; have HA1 := Lib.hid (ST.out w1 idZero hid1 hb1); have c3 := HA1.out.c3; have c4 := HA1.out.c4; clear hb1 hs1 hid1)
            | (go_at_call 13; (refine (SM.out w1 (HR.out.below HA1.out.bel).2.2 _ _ _ (HS.out.below HA1.out.bel).1).mono ?_); rintro e w2 ⟨rfl, hb2⟩; have HA2 := Lib.hid (HA1.out.below hb2); have c3 := HA2.out.c3; have c4 := HA2.out.c4; clear hb2)
            | ((with_reducible show wpList _ _ _ (⟨none, .store 35 (.tmp 6) (.tmp 15), _, _, _, _⟩ :: _) _ _); refine store_id rfl (.tmp 6) (.tmp 15) rfl _ _ id rfl rfl HA2.out.id HIL.out ?_; intro w3 hid3 hg3 hs3; have HA3 := Lib.hid (HA2.out.store HP.out hg3 hid3); have c3 := HA3.out.c3; have c4 := HA3.out.c4; clear hg3 hs3 hid3)
            | ((with_reducible show wpList _ _ _ (⟨some 16, _, _, _, _, _⟩ :: _) _ _); refine load_id rfl (.tmp 6) rfl _ _ rfl HA3.out.id ?_)
            | (go_at_call 31; (with_reducible refine (FA.out _).mono ?_); rintro e w5 ⟨rfl, hb5⟩; have HA5 := Lib.hid (HA3.out.below hb5); have c3 := HA5.out.c3; have c4 := HA5.out.c4; clear hb5)
            | (go_at_call 30; (with_reducible refine (RD.out _ (HR.out.below HA5.out.bel)).mono ?_); rintro e w4 ⟨a4, n4, c4', rfl, hsf, hr4, hb4, hnw⟩; have HNW := Lib.hid hnw; have HA4 := Lib.hid (HA5.out.below hb4); have HSF4 := Lib.hid hsf; have c3 := HA4.out.c3; have c4 := HA4.out.c4; clear hsf hr4 hb4 hnw)
            | (go_at_call 50; (refine (EQ.out _ _ _ _ _ _ _ HSF4.out.1 (HS.out.below HA4.out.bel).1).mono ?_); rintro e w5 ⟨rfl, rfl⟩))
          refine wp_region_held_drew (S := fun W => Below w4.heap.size w4 W) (by kernel_rfl) (Below.refl _ _).drew (fun hHeld => ?_)
          refine wpAnyH_take (i := 0) (oi := ⟨some 55, .move (.tmp 2), _, _, _, _⟩) (v := (.func (.func 13) #[] #[])) rfl (by kernel_rfl) (by kernel_rfl) (by kernel_rfl) (fun _ _ _ h => h) (Or.inl ⟨by rfl, fun W hW => by go_simp⟩) (by assumption) ?_
          simp only [Act.put, List.setIfInBounds_toArray, List.set_cons_zero, List.set_cons_succ]
          refine wpAnyH_take (i := 1) (oi := ⟨some 56, .move (.tmp 11), _, _, _, _⟩) (v := (.slice a4 n4 c4')) rfl (by kernel_rfl) (by kernel_rfl) (by kernel_rfl) (fun _ _ _ h => h) (Or.inl ⟨by rfl, fun W hW => by go_simp⟩) (by assumption) ?_
          simp only [Act.put, List.setIfInBounds_toArray, List.set_cons_zero, List.set_cons_succ]
          refine wpAnyH_take (i := 4) (oi := ⟨some 59, .load 35 (.tmp 6), _, _, _, _⟩) (v := (.agg (idCells id))) rfl (by kernel_rfl) (by kernel_rfl) (by kernel_rfl) (fun _ _ _ h => h) (Or.inl ⟨by rfl, fun W hW => exec_loadId _ rfl _ _ _ HIL.out rfl ((HA4.out.below hW).id).range⟩) (by assumption) ?_
          simp only [Act.put, List.setIfInBounds_toArray, List.set_cons_zero, List.set_cons_succ]
          refine wpAnyH_ready (rs := [2]) (by kernel_rfl) (by simp) ?_
          refine AllReadyH.cons (o := ⟨some 57, .buildSlice 65 1 #[(0, (.tmp 56))], _, _, _, _⟩) rfl (fun K hK => ?_) AllReadyH.nil
          go_simp
          have HS5 := Lib.hid ((Below.refl w4.heap.size w4).drew.alloc (Nat.le_refl _) (.cells #[.slice a4 n4 c4'] 23))
          refine hK.out _ _ HS5.out (fun hHeld => ?_)
          clear hK K
          refine wpAnyH_ready (rs := [3]) (by kernel_rfl) (by simp) ?_
          refine AllReadyH.cons (o := ⟨some 58, .call { callee := .value (.tmp 55), args := #[(.tmp 57)], argTypes := #[65] }, _, _, _, _⟩) rfl (fun K hK => ?_) AllReadyH.nil
          go_simp
          go_wp2_with (go_at_call 13; (refine (SM4.out w4.drew (HR.out.below HA4.out.bel).2.2.drew a4 n4 c4' HSF4.out.1).mono ?_); rintro e w5 ⟨rfl, hb5⟩; have HB5 : Hid (Below w4.heap.size w4 w5) := Lib.hid ((Below.refl w4.heap.size w4).drew.trans hb5); clear hb5)
          refine hK.out _ _ HB5.out (fun hHeld => ?_)
          clear hK K
          refine wpAnyH_take (i := 5) (oi := ⟨some 60, .binOp .eql 35 (.tmp 58) (.tmp 59) 35, _, _, _, _⟩) (v := (.bool false)) rfl (by kernel_rfl) (by kernel_rfl) (by kernel_rfl) (fun _ _ _ h => h) (Or.inl ⟨by rfl, fun W hW => by rw [← HQX.out]; exact exec_eqlId _ _ _ rfl _ _ HRL.out HIL.out rfl rfl⟩) (by assumption) ?_
          simp only [Act.put, List.setIfInBounds_toArray, List.set_cons_zero, List.set_cons_succ]
          refine wpAnyH_take (i := 6) (oi := ⟨some 54, .assign (.tmp 60), _, _, _, _⟩) (v := (.bool false)) rfl (by kernel_rfl) (by kernel_rfl) (by kernel_rfl) (fun _ _ _ h => h) (Or.inl ⟨by rfl, fun W hW => by go_simp⟩) (by assumption) ?_
          simp only [Act.put, List.setIfInBounds_toArray, List.set_cons_zero, List.set_cons_succ]
          refine wpAnyH_done (by kernel_rfl) ?_ _
          have HA6 := Lib.hid (HA4.out.below HB5.out)
          have c3 := HA6.out.c3
          have c4 := HA6.out.c4
          go_wp2_with (first
            | (go_at_call 48; (refine (TT.out _ HA6.out).mono ?_); rintro e w6 ⟨rfl, hx6⟩; obtain ⟨F6, hr6, hs6, hi6, hn6⟩ := turn_out HA6.out HP.out HR.out hx6; have R6 := Lib.hid hr6; have S6 := Lib.hid hs6; have I6 := Lib.hid hi6; have N6 := Lib.hid hn6; clear hx6 hr6 hs6 hi6 hn6)
            | ((with_reducible show wpList _ _ _ (⟨some 67, _, _, _, _, _⟩ :: _) _ _); refine load_id rfl (.tmp 6) rfl _ _ rfl I6.out ?_)
            | ((with_reducible show wpList _ _ _ (⟨none, .store 35 (.tmp 6) (.tmp 67), _, _, _, _⟩ :: _) _ _); refine store_id rfl (.tmp 6) (.tmp 67) rfl _ _ id rfl rfl I6.out HIL.out ?_; intro w7 hid7 hg7 hs7))
          exact bodyPost_ret (results_id3 rfl _ _ (W.heap.size + 1 + 1) _ rfl hid7) rfl (by rw [HE.out]; exact (put_last (r := (T, 0)) R6.out S6.out hg7 HSZ.out HP.out.l6 N6.out).1 rfl)
        · have HZ := Lib.hid hz
          have kz : ((zz : Int) != 0) = true := by simp; omega
          clear hz
          go_enter Tryd.func26, Tryd.ntmps26
          go_wp2_with (first
            | ((with_reducible show wpList _ _ _ (⟨some 6, _, _, _, _, _⟩ :: _) _ _); refine alloc_id rfl rfl ?_; intro w1 hid1 hb1 hs1; have HA1 := Lib.hid (ST.out w1 idZero hid1 hb1); have c3 := HA1.out.c3; have c4 := HA1.out.c4; clear hb1 hs1 hid1)
            | (go_at_call 13; (refine (SM.out w1 (HR.out.below HA1.out.bel).2.2 _ _ _ (HS.out.below HA1.out.bel).1).mono ?_); rintro e w2 ⟨rfl, hb2⟩; have HA2 := Lib.hid (HA1.out.below hb2); have c3 := HA2.out.c3; have c4 := HA2.out.c4; clear hb2)
            | ((with_reducible show wpList _ _ _ (⟨none, .store 35 (.tmp 6) (.tmp 15), _, _, _, _⟩ :: _) _ _); refine store_id rfl (.tmp 6) (.tmp 15) rfl _ _ id rfl rfl HA2.out.id HIL.out ?_; intro w3 hid3 hg3 hs3; have HA3 := Lib.hid (HA2.out.store HP.out hg3 hid3); have c3 := HA3.out.c3; have c4 := HA3.out.c4; clear hg3 hs3 hid3)
            | ((with_reducible show wpList _ _ _ (⟨some 16, _, _, _, _, _⟩ :: _) _ _); refine load_id rfl (.tmp 6) rfl _ _ rfl HA3.out.id ?_)
            | (go_at_call 31; (with_reducible refine (FA.out _).mono ?_); rintro e w5 ⟨rfl, hb5⟩; have HA5 := Lib.hid (HA3.out.below hb5); have c3 := HA5.out.c3; have c4 := HA5.out.c4; clear hb5)
            | (go_at_call 30; (with_reducible refine (RD.out _ (HR.out.below HA5.out.bel)).mono ?_); rintro e w4 ⟨a4, n4, c4', rfl, hsf, hr4, hb4, hnw⟩; have HNW := Lib.hid hnw; have HA4 := Lib.hid (HA5.out.below hb4); have HSF4 := Lib.hid hsf; have c3 := HA4.out.c3; have c4 := HA4.out.c4; clear hsf hr4 hb4 hnw)
            | (go_at_call 50; (refine (EQ.out _ _ _ _ _ _ _ HSF4.out.1 (HS.out.below HA4.out.bel).1).mono ?_); rintro e w5 ⟨rfl, rfl⟩))
          refine wp_region_held_drew (S := fun W => Below w4.heap.size w4 W) (by kernel_rfl) (Below.refl _ _).drew (fun hHeld => ?_)
          refine wpAnyH_take (i := 0) (oi := ⟨some 55, .move (.tmp 2), _, _, _, _⟩) (v := (.func (.func 13) #[] #[])) rfl (by kernel_rfl) (by kernel_rfl) (by kernel_rfl) (fun _ _ _ h => h) (Or.inl ⟨by rfl, fun W hW => by go_simp⟩) (by assumption) ?_
          simp only [Act.put, List.setIfInBounds_toArray, List.set_cons_zero, List.set_cons_succ]
          refine wpAnyH_take (i := 1) (oi := ⟨some 56, .move (.tmp 11), _, _, _, _⟩) (v := (.slice a4 n4 c4')) rfl (by kernel_rfl) (by kernel_rfl) (by kernel_rfl) (fun _ _ _ h => h) (Or.inl ⟨by rfl, fun W hW => by go_simp⟩) (by assumption) ?_
          simp only [Act.put, List.setIfInBounds_toArray, List.set_cons_zero, List.set_cons_succ]
          refine wpAnyH_take (i := 4) (oi := ⟨some 59, .load 35 (.tmp 6), _, _, _, _⟩) (v := (.agg (idCells id))) rfl (by kernel_rfl) (by kernel_rfl) (by kernel_rfl) (fun _ _ _ h => h) (Or.inl ⟨by rfl, fun W hW => exec_loadId _ rfl _ _ _ HIL.out rfl ((HA4.out.below hW).id).range⟩) (by assumption) ?_
          simp only [Act.put, List.setIfInBounds_toArray, List.set_cons_zero, List.set_cons_succ]
          refine wpAnyH_ready (rs := [2]) (by kernel_rfl) (by simp) ?_
          refine AllReadyH.cons (o := ⟨some 57, .buildSlice 65 1 #[(0, (.tmp 56))], _, _, _, _⟩) rfl (fun K hK => ?_) AllReadyH.nil
          go_simp
          have HS5 := Lib.hid ((Below.refl w4.heap.size w4).drew.alloc (Nat.le_refl _) (.cells #[.slice a4 n4 c4'] 23))
          refine hK.out _ _ HS5.out (fun hHeld => ?_)
          clear hK K
          refine wpAnyH_ready (rs := [3]) (by kernel_rfl) (by simp) ?_
          refine AllReadyH.cons (o := ⟨some 58, .call { callee := .value (.tmp 55), args := #[(.tmp 57)], argTypes := #[65] }, _, _, _, _⟩) rfl (fun K hK => ?_) AllReadyH.nil
          go_simp
          go_wp2_with (go_at_call 13; (refine (SM4.out w4.drew (HR.out.below HA4.out.bel).2.2.drew a4 n4 c4' HSF4.out.1).mono ?_); rintro e w5 ⟨rfl, hb5⟩; have HB5 : Hid (Below w4.heap.size w4 w5) := Lib.hid ((Below.refl w4.heap.size w4).drew.trans hb5); clear hb5)
          refine hK.out _ _ HB5.out (fun hHeld => ?_)
          clear hK K
          refine wpAnyH_take (i := 5) (oi := ⟨some 60, .binOp .eql 35 (.tmp 58) (.tmp 59) 35, _, _, _, _⟩) (v := (.bool false)) rfl (by kernel_rfl) (by kernel_rfl) (by kernel_rfl) (fun _ _ _ h => h) (Or.inl ⟨by rfl, fun W hW => by rw [← HQX.out]; exact exec_eqlId _ _ _ rfl _ _ HRL.out HIL.out rfl rfl⟩) (by assumption) ?_
          simp only [Act.put, List.setIfInBounds_toArray, List.set_cons_zero, List.set_cons_succ]
          refine wpAnyH_take (i := 6) (oi := ⟨some 54, .assign (.tmp 60), _, _, _, _⟩) (v := (.bool false)) rfl (by kernel_rfl) (by kernel_rfl) (by kernel_rfl) (fun _ _ _ h => h) (Or.inl ⟨by rfl, fun W hW => by go_simp⟩) (by assumption) ?_
          simp only [Act.put, List.setIfInBounds_toArray, List.set_cons_zero, List.set_cons_succ]
          refine wpAnyH_done (by kernel_rfl) ?_ _
          have HA6 := Lib.hid (HA4.out.below HB5.out)
          have c3 := HA6.out.c3
          have c4 := HA6.out.c4
          go_wp2_with (first
            | (go_at_call 48; (refine (TT.out _ HA6.out).mono ?_); rintro e w6 ⟨rfl, hx6⟩; obtain ⟨F6, hr6, hs6, hi6, hn6⟩ := turn_out HA6.out HP.out HR.out hx6; have R6 := Lib.hid hr6; have S6 := Lib.hid hs6; have I6 := Lib.hid hi6; have N6 := Lib.hid hn6; clear hx6 hr6 hs6 hi6 hn6)
            | ((with_reducible show wpList _ _ _ (⟨some 65, _, _, _, _, _⟩ :: _) _ _); refine build_id rfl rfl ?_)
            | ((with_reducible show wpList _ _ _ (⟨none, .store 35 (.tmp 6) (.tmp 65), _, _, _, _⟩ :: _) _ _); refine store_id rfl (.tmp 6) (.tmp 65) rfl _ _ idZero rfl rfl I6.out idZero_length ?_; intro w7 hid7 hg7 hs7))
          exact bodyPost_ret (results_id3 rfl _ _ (W.heap.size + 1 + 1) _ rfl hid7) rfl (by rw [HE.out]; exact (put_last (r := (T, zz)) R6.out S6.out hg7 HSZ.out HP.out.l6 N6.out).2 HZ.out)
  · have HE := Lib.hid (show r = (S, zeroId, [], z) by have := HRR.out; unfold putB at this; rw [if_neg h4, if_pos h0] at this; exact this.symm)
    have kz : ((z : Int) != 0) = true := by simp; omega
    clear TW TS TR HRR h4 h0
    go_enter Tryd.func26, Tryd.ntmps26
    go_wp2_with (first
      | ((with_reducible show wpList _ _ _ (⟨some 6, _, _, _, _, _⟩ :: _) _ _); refine alloc_id rfl rfl ?_; intro w1 hid1 hb1 hs1; have HA1 := Lib.hid (ST.out w1 idZero hid1 hb1); have c3 := HA1.out.c3; have c4 := HA1.out.c4; clear hb1 hs1 hid1)
      | (go_at_call 13; (refine (SM.out w1 (HR.out.below HA1.out.bel).2.2 _ _ _ (HS.out.below HA1.out.bel).1).mono ?_); rintro e w2 ⟨rfl, hb2⟩; have HA2 := Lib.hid (HA1.out.below hb2); have c3 := HA2.out.c3; have c4 := HA2.out.c4; clear hb2)
      | ((with_reducible show wpList _ _ _ (⟨none, .store 35 (.tmp 6) (.tmp 15), _, _, _, _⟩ :: _) _ _); refine store_id rfl (.tmp 6) (.tmp 15) rfl _ _ id rfl rfl HA2.out.id HIL.out ?_; intro w3 hid3 hg3 hs3; have HA3 := Lib.hid (HA2.out.store HP.out hg3 hid3); have c3 := HA3.out.c3; have c4 := HA3.out.c4; clear hg3 hs3 hid3)
      | ((with_reducible show wpList _ _ _ (⟨some 16, _, _, _, _, _⟩ :: _) _ _); refine load_id rfl (.tmp 6) rfl _ _ rfl HA3.out.id ?_)
      | (go_at_call 31; (with_reducible refine (FA.out _).mono ?_); rintro e w5 ⟨rfl, hb5⟩; have HA5 := Lib.hid (HA3.out.below hb5); have c3 := HA5.out.c3; have c4 := HA5.out.c4; clear hb5)
      | (go_at_call 30; (with_reducible refine (RD.out _ (HR.out.below HA5.out.bel)).mono ?_); rintro e w4 ⟨a4, n4, c4', rfl, hsf, hr4, hb4, hnw⟩; have HNW := Lib.hid hnw; have HA4 := Lib.hid (HA5.out.below hb4); have HSF4 := Lib.hid hsf; have c3 := HA4.out.c3; have c4 := HA4.out.c4; clear hsf hr4 hb4 hnw)
      | ((with_reducible show wpList _ _ _ (⟨some 65, _, _, _, _, _⟩ :: _) _ _); refine build_id rfl rfl ?_)
      | ((with_reducible show wpList _ _ _ (⟨none, .store 35 (.tmp 6) (.tmp 65), _, _, _, _⟩ :: _) _ _); refine store_id rfl (.tmp 6) (.tmp 65) rfl _ _ idZero rfl rfl HA4.out.id idZero_length ?_; intro w7 hid7 hg7 hs7))
    have HF := Lib.hid (run_grown (HR.out.below HA4.out.bel) (Step.of_below HA4.out.bel) hg7 HSZ.out HP.out.l6 (PAt.not HR.out HP.out.l6))
    exact bodyPost_ret (results_id3 rfl _ _ (W.heap.size + 1 + 1) _ rfl hid7) rfl (by rw [HE.out]; exact ⟨none, 0, 0, F, rfl, Safe.nil, HF.out.1, HF.out.2, fun g off e => by cases e⟩)
#print axioms put_any9
end
end Go.Proofs.YtcnhifkpflaibaaDoor
