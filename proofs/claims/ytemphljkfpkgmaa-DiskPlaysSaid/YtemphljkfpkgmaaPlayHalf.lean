/-
  An act played on both disks, where they are: what stands behind the program's half, and at the end.
-/
import Derived.Test.YtemphljkfpkgmaaRefCrash
import Derived.Test.YtemphljkfpkgmaaRefSync
import Derived.Test.YtemphljkfpkgmaaRefRead
import Derived.Test.YtemphljkfpkgmaaRefTurnW
import Derived.Test.YtemphljkfpkgmaaRefApp
import Derived.Test.YtemphljkfpkgmaaActs
namespace Go.Proofs.Ytemphljkfpkgmaa
open Go.RowKit Go.Maps

/-- Whatever turns these blocks alone, the reference's disk stands. -/
def RefSafe (F : Nat → Prop) (W : World) (V : RVal) (S : DS) : Prop := ∀ W', Chg F W W' → RefIn W' V S
/-- Both disks, beside what was there when the law began; X: blocks of another's, which the reference's disk does not reach. -/
structure Duo (w W : World) (F X : Nat → Prop) (db : Nat) (V : RVal) (S : DS) : Prop where
  run : Run w W F db S
  safe : RefSafe (fun k => F k ∨ X k) W V S
  made : V.made = true
  quota : V.q = (S.quota : Int)
  arm : S.arm ≤ 9223372036854775807
/-- What an act played on both comes to. -/
def PlayEnd (w W : World) (F X : Nat → Prop) (db : Nat) (q : Int) (S' : DS) (e : Ending) (W' : World) : Prop := ∃ V' F', e = .returned (.tuple #[.agg (refC V' S'), .bool true]) ∧ V'.q = q ∧ Duo w W' F' X db V' S' ∧ Step F W W' F'
/-- Behind the program's half. -/
structure Half (w W0 : World) (F0 X : Nat → Prop) (W : World) (F : Nat → Prop) (db gR gX gZ : Nat) (V : RVal) (S S2 : DS) (x : List Value) : Prop where
  run : Run w W F db S2
  step0 : Step F0 W0 W F
  safe : RefSafe (fun k => F k ∨ X k ∨ k = gR ∨ k = gZ) W V S
  r : RBox W gR V S
  x : RowAt W gX 37 x
  z : RowAt W gZ 31 zeroD
  nr : ¬ F gR
  nx : ¬ F gX
  nz : ¬ F gZ
  rz : gR ≠ gZ
  low : W0.heap.size ≤ gR ∧ W0.heap.size ≤ gZ
  xl : ∀ k, X k → k < W0.heap.size
  wl : w.heap.size ≤ W0.heap.size
section
variable {w W0 W W2 W3 W4 : World} {F0 X F F2 : Nat → Prop} {db gR gX gZ : Nat} {V V' : RVal} {S S2 S3 : DS} {x : List Value}
theorem Duo.below (D : Duo w W F X db V S) (hb : Below W.heap.size W W2) : Duo w W2 F X db V S := ⟨D.run.below hb, fun W' h => D.safe W' ((Chg.of_below hb).trans h), D.made, D.quota, D.arm⟩
theorem Duo.inn (D : Duo w W F X db V S) : RefIn W V S := D.safe W Chg.refl
theorem Duo.chg (D : Duo w W F X db V S) (hc : Chg X W W2) (hX : ∀ k, X k → ¬ F k ∧ w.heap.size ≤ k) : Duo w W2 F X db V S :=
  ⟨⟨D.run.1.same hc.size (fun k hk => hc.block k (D.run.1.lt k hk) (fun e => (hX k e).1 hk)), D.run.2.1, D.run.2.2.trans (hc.below (fun k hk => (hX k hk).2) D.run.2.2.size)⟩, fun W' h => D.safe W' ⟨h.os.trans hc.os, h.tape.trans hc.tape, h.output.trans hc.output, Nat.le_trans hc.size h.size, fun k hk hn => (h.block k (Nat.lt_of_lt_of_le hk hc.size) hn).trans (hc.block k hk (fun e => hn (.inr e)))⟩, D.made, D.quota, D.arm⟩
theorem row_chg {g : Nat} {t : TypeId} {cs : List Value} (h : RowAt W g t cs) (hc : Chg F W W2) (hF : ¬ F g) : RowAt W2 g t cs := by
  unfold RowAt; rw [hc.block g h.lt hF]; exact h
theorem Duo.half (D : Duo w W F X db V S) (hX : ∀ k, X k → k < W.heap.size) (hb : Below W.heap.size W W2) (hr : RBox W2 gR V S) (hx : RowAt W2 gX 37 x) (hz : RowAt W2 gZ 31 zeroD) (h1 : W.heap.size ≤ gR) (h2 : gR < gX) (h3 : gX < gZ) : Half w W F X W2 F db gR gX gZ V S S x := by
  have hl : ∀ k, W.heap.size ≤ k → ¬ F k := fun k hk hF => by have := D.run.1.lt k hF; omega
  refine ⟨D.run.below hb, ⟨Chg.of_below hb, fun _ h => .inl h, fun _ h => h⟩, fun W' h => D.safe W' ⟨h.os.trans hb.os, h.tape.trans hb.tape, h.output.trans hb.output, Nat.le_trans hb.size h.size, fun k hk hF => ?_⟩, hr, hx, hz, hl _ h1, hl _ (by omega), hl _ (by omega), by omega, by omega, hX, D.run.2.2.size⟩
  rw [h.block k (Nat.lt_of_lt_of_le hk hb.size) (fun e => by
    rcases e with e | e | e | e
    · exact hF (.inl e)
    · exact hF (.inr e)
    · omega
    · omega), hb.block k hk]
theorem Half.below (H : Half w W0 F0 X W F db gR gX gZ V S S2 x) (hb : Below W.heap.size W W2) : Half w W0 F0 X W2 F db gR gX gZ V S S2 x :=
  ⟨H.run.below hb, H.step0.trans ⟨Chg.of_below hb, fun _ h => .inl h, fun _ h => h⟩, fun W' h => H.safe W' ((Chg.of_below hb).trans h), RBox.below H.r hb, RowAt.below H.x hb, RowAt.below H.z hb, H.nr, H.nx, H.nz, H.rz, H.low, H.xl, H.wl⟩
theorem Half.step (H : Half w W0 F0 X W F db gR gX gZ V S S2 x) (hs : Step F W W2 F2) (hd : DiskAt F2 W2 db S3) : Half w W0 F0 X W2 F2 db gR gX gZ V S S3 x := by
  have hn : ∀ k, k < W.heap.size → ¬ F k → ¬ F2 k := fun k hk hF h2 => (hs.more k h2).elim hF (fun h => by omega)
  refine ⟨H.run.step hs hd, H.step0.trans hs, fun W' h => H.safe W' ⟨h.os.trans hs.chg.os, h.tape.trans hs.chg.tape, h.output.trans hs.chg.output, Nat.le_trans hs.chg.size h.size, fun k hk hF => ?_⟩, row_chg H.r hs.chg H.nr, row_chg H.x hs.chg H.nx, row_chg H.z hs.chg H.nz, hn _ (RowAt.lt H.r) H.nr, hn _ H.x.lt H.nx, hn _ H.z.lt H.nz, H.rz, H.low, H.xl, H.wl⟩
  rw [h.block k (Nat.lt_of_lt_of_le hk hs.chg.size) (fun e => e.elim (fun e => hn k hk (fun h => hF (.inl h)) e) (fun e => hF (.inr e))), hs.chg.block k hk (fun e => hF (.inl e))]
theorem Half.inn (H : Half w W0 F0 X W F db gR gX gZ V S S2 x) : RefIn W V S := H.safe W Chg.refl
theorem Half.seen (H : Half w W0 F0 X W F db gR gX gZ V S S2 x) : W.cell? ⟨gX, 0, none⟩ = x[0]? ∧ W.cell? ⟨gX, 1, none⟩ = x[1]? ∧ W.cell? ⟨gX, 2, none⟩ = x[2]? ∧ W.cell? ⟨gX, 3, none⟩ = x[3]? ∧ W.cell? ⟨gX, 4, none⟩ = x[4]? ∧ W.cell? ⟨gX, 5, none⟩ = x[5]? := by
  refine ⟨?_, ?_, ?_, ?_, ?_, ?_⟩ <;> rw [cell_of_row W gX _ x.toArray _ (0, 0) H.x] <;> simp
/-- Both halves are done, what they left is stored. -/
theorem Half.done (H : Half w W0 F0 X W F db gR gX gZ V S S2 x) (hn : RefNew W W2 V V' S S2) (hb : Below W.heap.size W W2) (hc : Chg (fun k => k = gR ∨ k = gZ) W2 W3) (hm : V'.made = true) (hq : V'.q = (S2.quota : Int)) (ha : S2.arm ≤ 9223372036854775807) : Duo w W3 F X db V' S2 ∧ Step F0 W0 W3 F := by
  have R2 := H.run.below hb
  have hlt := H.run.1.lt
  have hrl := RowAt.lt H.r
  have hzl := H.z.lt
  have hw := R2.2.2.size
  have h0 := H.step0.chg.size
  refine ⟨⟨⟨R2.1.same hc.size (fun k hk => hc.block k (R2.1.lt k hk) (fun e => e.elim (fun e => H.nr (e ▸ hk)) (fun e => H.nz (e ▸ hk)))), R2.2.1, R2.2.2.trans (hc.below (fun k hk => by have := H.low; have := H.wl; rcases hk with rfl | rfl <;> omega) hw)⟩, fun W' h => ?_, hm, hq, ha⟩, ⟨⟨hc.os.trans (hb.os.trans H.step0.chg.os), hc.tape.trans (hb.tape.trans H.step0.chg.tape), hc.output.trans (hb.output.trans H.step0.chg.output), Nat.le_trans h0 (Nat.le_trans hb.size hc.size), fun k hk hF => ?_⟩, H.step0.more, H.step0.old⟩⟩
  · have h2 : Chg (fun k => F k ∨ X k ∨ k = gR ∨ k = gZ) W2 W' := ⟨h.os.trans hc.os, h.tape.trans hc.tape, h.output.trans hc.output, Nat.le_trans hc.size h.size, fun k hk hF => (h.block k (Nat.lt_of_lt_of_le hk hc.size) (fun e => hF (e.elim .inl (fun e => .inr (.inl e))))).trans (hc.block k hk (fun e => hF (.inr (.inr e))))⟩
    rcases hn with hn | ⟨rfl, hn⟩
    · refine hn W' fun k k1 k2 => h2.block k k2 (fun e => ?_)
      rcases e with e | e | rfl | rfl
      · have := hlt k e
        omega
      · have := H.xl k e
        omega
      · omega
      · omega
    · exact hn W' (H.safe W' ((Chg.of_below hb).trans h2))
  · have h4 := H.low
    rw [hc.block k (Nat.lt_of_lt_of_le hk (Nat.le_trans h0 hb.size)) (fun e => by omega), hb.block k (Nat.lt_of_lt_of_le hk h0), H.step0.chg.block k hk hF]
end
theorem grown2 {W W2 W3 : World} {gR gZ : Nat} (h1 : W.grownBy W2 (some gR)) (h2 : W2.grownBy W3 (some gZ)) : Chg (fun k => k = gR ∨ k = gZ) W W3 :=
  (Chg.refl.grown h1 (fun k hk => by cases hk; exact .inl (.inl rfl))).grown h2 (fun k hk => by cases hk; exact .inl (.inr rfl))
theorem grown1 {W W3 : World} {gR gZ : Nat} (h2 : W.grownBy W3 (some gZ)) : Chg (fun k => k = gR ∨ k = gZ) W W3 :=
  Chg.refl.grown h2 (fun k hk => by cases hk; exact .inl (.inr rfl))
theorem infoAct : (Try.prog.info? 37).map (·.size) = some 6 := by kernel_rfl
theorem strB_self (s : ByteArray) : strB s.data.toList = s := strB_of s
theorem rem_range (z : Int) : 0 ≤ (wrap64 (z.tmod 7 + 7)).tmod 7 ∧ (wrap64 (z.tmod 7 + 7)).tmod 7 ≤ 6 := by
  have h1 : -7 < z.tmod 7 ∧ z.tmod 7 < 7 := by
    have := Int.tmod_lt_of_pos z (b := 7) (by decide)
    have h3 := Int.lt_tmod_of_pos z (b := 7) (by decide)
    omega
  rw [IntWalk.wrap64_in _ (by omega)]
  have h2 := Int.tmod_nonneg 7 (show (0 : Int) ≤ z.tmod 7 + 7 by omega)
  have h3 := Int.tmod_lt_of_pos (z.tmod 7 + 7) (b := 7) (by decide)
  omega
section
variable {S : DS}
theorem arm_low {S : DS} (h : S.arm ≤ 9223372036854775807) : (armS S).arm ≤ 9223372036854775807 := by
  show S.arm - 1 ≤ _
  omega
theorem put_same (S : DS) (s : Nm) (b : List UInt8) : (putS S s b).quota = S.quota ∧ (putS S s b).arm = S.arm := by
  unfold putS
  split <;> exact ⟨rfl, rfl⟩
theorem do_same (S : DS) (x : ActV) (h : S.arm ≤ 9223372036854775807) (hn : x.n ≤ 9223372036854775807) : (doS S x).quota = S.quota ∧ (doS S x).arm ≤ 9223372036854775807 := by
  have ha := arm_low h
  unfold doS appendS syncS turnS
  split
  · split
    · exact ⟨rfl, h⟩
    split
    · exact ⟨rfl, h⟩
    split
    · exact ⟨rfl, ha⟩
    · obtain ⟨h1, h2⟩ := put_same (armS S) x.s.data.toList x.b
      exact ⟨h1, h2 ▸ ha⟩
  split
  · split
    · exact ⟨rfl, h⟩
    split
    · exact ⟨rfl, h⟩
    split
    · exact ⟨rfl, ha⟩
    · exact ⟨rfl, ha⟩
  split
  · split
    · exact ⟨rfl, h⟩
    split
    · exact ⟨rfl, h⟩
    split
    · exact ⟨rfl, ha⟩
    · exact ⟨rfl, ha⟩
  split
  · split
    · exact ⟨rfl, h⟩
    split
    · exact ⟨rfl, h⟩
    split
    · exact ⟨rfl, ha⟩
    · exact ⟨rfl, ha⟩
  split
  · refine ⟨rfl, ?_⟩
    show x.n.toNat ≤ _
    omega
  split
  · exact ⟨rfl, Nat.zero_le _⟩
  · exact ⟨rfl, h⟩
end
section
variable {V : RVal} {S : DS} {w : World}
theorem refSync_s (s : ByteArray) (h : RefIn w V S) (hm : V.made = true) (hok : Inv S) (hfew : Few S 900) (har : S.arm ≤ 9223372036854775807) :
    Calls Try.prog 19 #[.agg (refC V S), .string s] w (RefEnd w V S (syncS S s.data.toList)) := by
  have := refSync_any V S s.data.toList w h hm hok (hfew.mono (by omega)) har
  rwa [strB_self] at this
theorem refTurn_s (s t : ByteArray) (h : RefIn w V S) (hm : V.made = true) (hok : Inv S) (hfew : Few S 900) (har : S.arm ≤ 9223372036854775807) :
    Calls Try.prog 21 #[.agg (refC V S), .string s, .string t, .bool false] w (RefEnd w V S (turnS S s.data.toList t.data.toList t.data.toList)) := by
  have := refTurn_any V S s.data.toList t.data.toList w h hm hok (hfew.mono (by omega)) har
  rwa [strB_self, strB_self] at this
theorem refDrop_s (s : ByteArray) (h : RefIn w V S) (hm : V.made = true) (hok : Inv S) (hfew : Few S 900) (har : S.arm ≤ 9223372036854775807) :
    Calls Try.prog 21 #[.agg (refC V S), .string s, .string ⟨#[]⟩, .bool true] w (RefEnd w V S (turnS S s.data.toList s.data.toList [])) := by
  have := refDrop_any V S s.data.toList [] w h hm hok (hfew.mono (by omega)) har
  rw [strB_self] at this
  exact this
theorem refRead_s (s : ByteArray) (h : RefIn w V S) (hm : V.made = true) (hok : Inv S) (hfew : Few S 900) :
    Calls Try.prog 24 #[.agg (refC V S), .string s] w (ReadEnd w (readS S s.data.toList)) := by
  have := refRead_any V S s.data.toList w h hm hok (by have := hfew.files; omega)
  rwa [strB_self] at this
theorem refAppend_s (s : ByteArray) (a : Option Addr) (n c : Nat) (b : List UInt8) (h : RefIn w V S) (hbs : Bytes w a n c b) (hbl : n ≤ 300) (hm : V.made = true) (hq : V.q = (S.quota : Int)) (hok : Inv S) (hfew : Few S 900) (har : S.arm ≤ 9223372036854775807) :
    Calls Try.prog 17 #[.agg (refC V S), .string s, .slice a n c] w (RefEnd w V S (appendS S s.data.toList b)) := by
  have := refAppend_any V S s.data.toList a n c b w h hbs (by omega) hm hq hok (hfew.mono (by omega)) har
  rwa [strB_self] at this
end
theorem bytes_lt {w : World} {a : Option Addr} {n c : Nat} {l : List UInt8} (h : Bytes w a n c l) (hn : 0 < n) : ∀ g off, a = some ⟨g, off, none⟩ → g < w.heap.size := by
  intro g off e
  subst e
  rcases h.2.2.2 with h0 | ⟨b, o, ha, hc⟩
  · omega
  · simp only [Option.some.injEq, Addr.mk.injEq, and_true] at ha
    obtain ⟨rfl, rfl⟩ := ha
    exact World.block_lt_of_cell? _ _ (hc 0 hn)
/-- Bytes of its own stand, whatever a disk does that lay below. -/
theorem own_apart {w : World} {F : Nat → Prop} {base n c : Nat} {a : Option Addr} {l : List UInt8} (h : Own w base (.slice a n c) l) (hF : ∀ k, F k → k < base) : ∀ W, Chg (fun k => F k ∨ w.heap.size ≤ k) w W → Bytes W a n c l := fun W hW =>
  Bytes.later h.isBytes (fun hn g off e hx => by
    have h1 := h.grown g (by rw [e]; rfl)
    have h2 := bytes_lt h.isBytes hn g off e
    rcases hx with hx | hx
    · have := hF g hx
      omega
    · omega) hW
def intK : Kind Int := ⟨fun x => [.int .i64 x], 1, fun _ => True, by decide, fun _ _ => rfl, fun x _ v hv => by
  simp only [List.mem_cons, List.not_mem_nil, or_false] at hv
  rcases hv with rfl; rfl⟩
theorem intInfo : (Try.prog.info? 3).map (fun i => (i.zero, i.size, i.bytes)) = some (some (.int .i64 0), 1, 8) := by kernel_rfl
theorem at_of_ints {w : World} {a : Option Addr} {n c : Nat} {l : List Int} (h : At1 I w a n c l) : AtG intK w a n c l := by
  obtain ⟨h1, h2, h3, h4⟩ := h
  refine ⟨h1, h2, h3, fun _ _ => trivial, ?_⟩
  rcases h4 with h4 | ⟨b, off, ha, hc⟩
  · exact .inl h4
  · refine .inr ⟨b, off, ha, fun j hj i v hv => ?_⟩
    have hi : i = 0 := by
      rcases Nat.eq_zero_or_pos i with h | h
      · exact h
      · rw [List.getElem?_eq_none (by show 1 ≤ i; omega)] at hv; cases hv
    subst hi
    have := hc j hj
    have e : intK.cells (gd l j) = [I (gd l j)] := rfl
    rw [e] at hv
    simp only [List.getElem?_cons_zero, Option.some.injEq] at hv
    subst hv
    show w.cell? ⟨b, off + j * 1 + 0, none⟩ = _
    rw [Nat.mul_one, Nat.add_zero, this]
    rfl
theorem ints_of_at {w : World} {a : Option Addr} {n c : Nat} {l : List Int} (h : AtG intK w a n c l) : At1 I w a n c l := by
  obtain ⟨h1, h2, h3, _, h4⟩ := h
  refine ⟨h1, h2, h3, ?_⟩
  rcases h4 with h4 | ⟨b, off, ha, hc⟩
  · exact .inl h4
  · refine .inr ⟨b, off, ha, fun j hj => ?_⟩
    have := hc j hj 0 (I (gd l j)) rfl
    have e : off + j * intK.k + 0 = off + j := by show off + j * 1 + 0 = _; omega
    rw [e] at this
    exact this
/-- Numbers of its own lie apart from a disk that lay below. -/
theorem own_free_of {w : World} {F : Nat → Prop} {base n c : Nat} {a : Option Addr} {l : List Int} (h : OwnG intK 3 w base (.slice a n c) l) (hF : ∀ k, F k → k < base) : 0 < n → ∀ g off, a = some ⟨g, off, none⟩ → ¬ F g := fun _ g off e hx => by
  have h1 := (World.ownsRow.lt h.1 g (by rw [e]; rfl)).1
  have := hF g hx
  omega
#print axioms Half.done
#print axioms do_same
end Go.Proofs.Ytemphljkfpkgmaa
