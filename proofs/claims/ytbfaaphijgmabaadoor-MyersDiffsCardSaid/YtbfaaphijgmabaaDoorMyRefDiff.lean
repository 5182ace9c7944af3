/-
  The document's Diff walked.
-/
import Derived.Test.YtbfaaphijgmabaaDoorMyRefMoves
import Derived.Test.YtbfaaphijgmabaaDoorMyAppAll
namespace Go.Proofs.YtbfaaphijgmabaaDoor
open Go.RowKit My

/-- Where the edits stand: none yet, or all but the last are done; what was done last. -/
def Cur (ms : List Int) (i : Nat) (O L : List EdV) (c : Er) : Prop := (i = 0 ∧ O = [] ∧ L = [] ∧ c = ⟨0, 0, []⟩) ∨ (0 < i ∧ O = L ++ [ev c] ∧ (ms.getD (i - 1) 0 = 1 ↔ ¬ (0 < c.d ∨ c.a ≠ [])))
theorem txt_snoc (a : List Int) (m : Nat) : txt (a ++ [(m : Int)]) = txt a ++ encF m := by
  rw [txt_append]
  congr 1
  show textF [((m : Nat) : Int).toNat] = _
  rw [Int.toNat_natCast]
  simp [textF]
theorem set_last {α : Type} (P : List α) (x y : α) : (P ++ [x]).set P.length y = P ++ [y] := by simp
theorem gd_last {P : List EdV} {x : EdV} : gd (P ++ [x]) P.length = x := by simp [gd]
theorem drop_cons {tg : List Int} {j : Nat} {u : Int} {r : List Int} (h : tg.drop j = u :: r) : j < tg.length ∧ tg.getD j 0 = u ∧ tg.drop (j + 1) = r := by
  have hj : j < tg.length := by
    rcases Nat.lt_or_ge j tg.length with h1 | h1
    · exact h1
    · rw [List.drop_eq_nil_of_le h1] at h; cases h
  rw [List.drop_eq_getElem_cons hj] at h
  exact ⟨hj, by simp [hj, (List.cons.inj h).1], (List.cons.inj h).2⟩
structure RD (ms tg : List Int) (i j : Nat) (O L : List EdV) (c : Er) (F : List EdV) : Prop where
  eds : Eds ms (tg.drop j) i L c F
  cur : Cur ms i O L c
  jl : j ≤ tg.length
theorem RD.keep {ms tg : List Int} {i j : Nat} {O L P : List EdV} {c : Er} {F : List EdV} (h : RD ms tg i j O L c F) (hi : i < ms.length) (hz : ms.getD i 0 = 1) (hc : ¬ (0 < c.d ∨ c.a ≠ [])) (hP : P = L) :
    j < tg.length ∧ RD ms tg (i + 1) (j + 1) (P ++ [⟨(c.k : Int) + 1, c.d, txt c.a⟩]) L ⟨c.k + 1, c.d, c.a⟩ F := by
  subst hP
  obtain ⟨u, r, hu⟩ := h.eds.some_ hi (by rw [hz]; decide)
  obtain ⟨h1, h2, h3⟩ := drop_cons hu
  have he := h.eds
  rw [hu] at he
  have h4 := he.keep hi hz hc
  rw [← h3] at h4
  exact ⟨h1, h4, .inr ⟨by omega, rfl, by rw [Nat.add_sub_cancel, hz]; simpa using hc⟩, by omega⟩
theorem RD.ends {ms tg : List Int} {i j : Nat} {O L : List EdV} {c : Er} {F : List EdV} (h : RD ms tg i j O L c F) (hi : i < ms.length) (hz : ms.getD i 0 = 1) (hc : 0 < c.d ∨ c.a ≠ []) (hO : O = L ++ [ev c]) :
    j < tg.length ∧ RD ms tg (i + 1) (j + 1) (O ++ [⟨0 + 1, 0, []⟩]) O ⟨1, 0, []⟩ F := by
  obtain ⟨u, r, hu⟩ := h.eds.some_ hi (by rw [hz]; decide)
  obtain ⟨h1, h2, h3⟩ := drop_cons hu
  have he := h.eds
  rw [hu] at he
  have h4 := he.ends hi hz hc
  rw [← h3] at h4
  subst hO
  exact ⟨h1, h4, .inr ⟨by omega, rfl, by rw [Nat.add_sub_cancel, hz]; simp⟩, by omega⟩
theorem RD.drop {ms tg : List Int} {i j : Nat} {O L P : List EdV} {c : Er} {F : List EdV} (h : RD ms tg i j O L c F) (hi : i < ms.length) (hz : ms.getD i 0 = 2) (hP : P = L) :
    RD ms tg (i + 1) j (P ++ [⟨c.k, (c.d : Int) + 1, txt c.a⟩]) L ⟨c.k, c.d + 1, c.a⟩ F := by
  subst hP
  exact ⟨h.eds.drop hi hz, .inr ⟨by omega, rfl, by rw [Nat.add_sub_cancel, hz]; simp⟩, h.jl⟩
theorem RD.add {ms tg : List Int} {i j : Nat} {O L P : List EdV} {c : Er} {F : List EdV} (h : RD ms tg i j O L c F) (hi : i < ms.length) (hz : ms.getD i 0 = 3) (hP : P = L) (hok : OkTo tg tg.length) :
    j < tg.length ∧ ∃ m : Nat, tg.getD j 0 = (m : Int) ∧ mayF m = true ∧ RD ms tg (i + 1) (j + 1) (P ++ [⟨c.k, c.d, txt c.a ++ encF m⟩]) L ⟨c.k, c.d, c.a ++ [(m : Int)]⟩ F := by
  subst hP
  obtain ⟨u, r, hu⟩ := h.eds.some_ hi (by rw [hz]; decide)
  obtain ⟨h1, h2, h3⟩ := drop_cons hu
  obtain ⟨m, hm, hmay⟩ := valid_of _ (hok j h1)
  have he := h.eds
  rw [hu] at he
  have h4 := he.add hi hz
  rw [← h3, ← h2, hm] at h4
  exact ⟨h1, m, hm, hmay, h4, .inr ⟨by omega, by rw [← txt_snoc]; rfl, by rw [Nat.add_sub_cancel, hz]; simp⟩, by omega⟩
theorem cell_low {n : Nat} {w w' : World} (h : Below n w w') {b o : Nat} {v : Value} (hb : b < n) (hc : w.cell? ⟨b, o, none⟩ = some v) : w'.cell? ⟨b, o, none⟩ = some v := (World.cell?_of_block (h.block b hb)).trans hc
theorem own_set {W : World} {base g oc on : Nat} {P : List EdV} {e e' : EdV} (h : OwnG edK 39 W base (.slice (some ⟨g, 0, none⟩) on oc) (P ++ [e])) (i : Nat) (hi : i < 3) (v : Value) (hv : edC e' = (edC e).set i v) (pn : Nat) (hp : P.length = pn) :
    OwnG edK 39 (W.setCell ⟨g, pn * 3 + i, none⟩ v) base (.slice (some ⟨g, 0, none⟩) on oc) (P ++ [e']) := by
  subst hp
  have hn := h.len
  rw [List.length_append] at hn
  have := h.store (j := P.length) (i := i) (by simp at hn; omega) hi v e' (by rw [gd_last]; exact hv) trivial
  rwa [set_last] at this
theorem own_free {W : World} {base g n c : Nat} {L : List EdV} (h : OwnG edK 39 W base (.slice (some ⟨g, 0, none⟩) (n + 1) c) L) (j : Nat) : W.frozen? ⟨g, j, none⟩ = false := by
  obtain ⟨g', h1, _, _, h2⟩ := h.row (Nat.succ_pos n)
  simp only [Option.some.injEq, Addr.mk.injEq, and_true] at h1
  obtain rfl := h1
  exact h2 j
theorem encF_le4 (m : Nat) : (encF m).length ≤ 4 := by
  unfold encF
  split
  · simp
  · split
    · simp
    · split
      · simp
      · simp
/-- What the document's Diff answers. -/
def RDiffIs (L : List EdV) (z : Nat) (w : World) (e : Ending) (w' : World) : Prop := ∃ a c, e = .returned (.tuple #[.slice a L.length c, .int .i64 (z : Int)]) ∧ AtG edK w' a L.length c L ∧ Below w.heap.size w w'
set_option maxRecDepth 100000 in
set_option maxHeartbeats 4000000 in
theorem refDiff_good (s t : ByteArray) (x y : List Nat) (p q : Nat) (w : World) (hs : s.size ≤ 4096) (ht : t.size ≤ 4096) (hx : runesF s.data.toList = (some x, p)) (hy : runesF t.data.toList = (some y, q)) :
    Calls Tryd.prog 14 #[.string s, .string t] w (RDiffIs ((edits (scr (zs x) (zs y)) (zs y)).map ev) 0 w) := by
  have hxl := runesF_len hx
  have hyl := runesF_len hy
  have hsl : s.data.toList.length = s.size := by rw [Array.length_toList]; rfl
  have htl : t.data.toList.length = t.size := by rw [Array.length_toList]; rfl
  have RX := Lib.hid (fun W => ref_some s x p W (by omega) hx)
  have RY := Lib.hid (fun W => ref_some t y q W (by omega) hy)
  have SF := scr_facts _ (zs x) (zs y) (Nat.le_refl _)
  have HL := Lib.hid (mv_len (E := eq2 (zs x) (zs y)) _ (zs x).length (zs y).length (Nat.le_refl _))
  have HOK := Lib.hid (ok_zs (runesF_some hy).1)
  have HX4 := Lib.hid (show (zs x).length ≤ 4096 by rw [zs_length]; omega)
  have HY4 := Lib.hid (show (zs y).length ≤ 4096 by rw [zs_length]; omega)
  have RM := Lib.hid (fun (a b : Option Addr) n m ca cb W (h1 : Runs W a n ca (zs x)) (h2 : Runs W b m cb (zs y)) => refMoves_any (zs x) (zs y) a b n m ca cb W h1 h2 (by rw [← h1.1]; exact HX4.out) (by rw [← h2.1]; exact HY4.out))
  obtain ⟨ms, hms⟩ : ∃ m, scr (zs x) (zs y) = m := ⟨_, rfl⟩
  have HL2 := Lib.hid (show ms.length ≤ 8192 by have h1 := HL.out; have : (scr (zs x) (zs y)).length ≤ (zs x).length + (zs y).length := h1; rw [hms] at this; have := HX4.out; have := HY4.out; omega)
  have HMS := Lib.hid hms
  rw [hms] at SF ⊢
  obtain ⟨tg, htg⟩ : ∃ m, zs y = m := ⟨_, rfl⟩
  rw [htg] at SF HOK RY RM HY4 HMS ⊢
  obtain ⟨X, hX⟩ : ∃ m, zs x = m := ⟨_, rfl⟩
  rw [hX] at RX RM HX4 HMS
  have H3 := Lib.hid SF.1
  have HC := Lib.hid SF.2
  obtain ⟨mn, hmn⟩ : ∃ n, ms.length = n := ⟨_, rfl⟩
  have HMN := Lib.hid hmn
  have hmI : (mn : Int) ≤ 8192 := by have := HL2.out; omega
  obtain ⟨F, hF⟩ : ∃ F, (eds ms tg ⟨0, 0, []⟩).map ev = F := ⟨_, rfl⟩
  have HF := Lib.hid hF
  have E0 := Lib.hid (show RD ms tg 0 0 [] [] ⟨0, 0, []⟩ F from ⟨⟨by rw [List.drop_zero, List.drop_zero, hF]; rfl, by rw [List.drop_zero, List.drop_zero]; exact HC.out, by rw [List.drop_zero]; exact HOK.out, OkTo.zero _, by simp⟩, .inl ⟨rfl, rfl, rfl, rfl⟩, Nat.zero_le _⟩)
  clear hs ht hx hy hxl hyl hsl htl SF HL hms htg hX hmn hF
  go_enter Tryd.func14, Tryd.ntmps14
  go_wp2_with (first
    | (go_at_call 20; have Q2 := Q1; (refine (RY.out _).mono ?_); rintro en w2 ⟨a2, n2, c2, rfl, ho2, hb2⟩; have HB2 := Lib.hid (HB1.out.trans (hb2.mono HB1.out.size)); have O1b := Lib.hid (O1.out.below hb2); have O2 := Lib.hid ho2; clear ho2 hb2)
    | (go_at_call 20; (refine (RX.out _).mono ?_); rintro en w1 ⟨a1, n1, c1, rfl, ho1, hb1⟩; have HB1 := Lib.hid hb1; have O1 := Lib.hid ho1; have Q1 := trivial; clear ho1 hb1)
    | (go_at_call 11; (refine (RM.out _ _ _ _ _ _ _ O1b.out O2.out).mono ?_); rintro en w3 ⟨a3, c3, rfl, ho3, hb3⟩; have HB3 := Lib.hid (HB2.out.trans (hb3.mono HB2.out.size)); have O2b := Lib.hid (O2.out.below hb3); rw [HMS.out] at ho3; rw [HMS.out, HMN.out]; rw [HMN.out] at ho3; have M3 := Lib.hid (show Bytes w3 a3 mn c3 (mvB ms) from ho3.isBytes); clear ho3 hb3))
  go_loopg [14, 15, 16] mn (fun gh v14 v15 v16 W => ∃ (i j : Nat) (a : Option Addr) (on oc : Nat) (O L : List EdV) (c : Er), v14 = .slice a on oc ∧ v15 = .int .i64 j ∧ v16 = .int .i64 i ∧ gh + i = mn ∧ Hid (OwnG edK 39 W w3.heap.size (.slice a on oc) O) ∧ Hid (RD ms tg i j O L c F) ∧ Hid (Below w3.heap.size w3 W))
  case atStart => exact ⟨0, 0, none, 0, 0, [], [], ⟨0, 0, []⟩, rfl, rfl, rfl, rfl, Lib.hid OwnG.nil, E0, Lib.hid (Below.refl _ _)⟩
  case round =>
    obtain ⟨i, j, a, on, oc, O, L, c, rfl, rfl, rfl, hgh, HO, HR, HB⟩ := hrel
    have HGH := Lib.hid hgh
    have hi0 : (0 : Int) ≤ (i : Int) := by omega
    have hj0 : (0 : Int) ≤ (j : Int) := by omega
    have hin : (i : Int) ≤ (mn : Int) := by omega
    have HON := Lib.hid HO.out.len
    have hon : (on : Int) ≤ 8193 := by
      have h1 := HR.out.eds.le
      have h2 := HR.out.cur
      have h3 := HO.out.len
      rcases h2 with ⟨_, rfl, _⟩ | ⟨_, rfl, _⟩
      · simp at h3; omega
      · simp at h3; omega
    have H48 := Lib.hid (show (O.length + 1) * (32 + 1) ≤ 140737488355328 by have := HON.out; omega)
    have hjI : (j : Int) ≤ 4096 := by have := HR.out.jl; have := HY4.out; omega
    clear hgh
    by_cases hi : (i : Int) < (mn : Int)
    · have hib : decide (i < mn) = true := by simp; omega
      have HI := Lib.hid (show i < ms.length by rw [HMN.out]; omega)
      have hci : ∃ bm om, a3 = some ⟨bm, om, none⟩ ∧ wr.cell? ⟨bm, om + i, none⟩ = some (.int .u8 (ms.getD i 0)) ∧ (0 < i → wr.cell? ⟨bm, om + (i - 1), none⟩ = some (.int .u8 (ms.getD (i - 1) 0))) := by
        obtain ⟨b, off, h1, h2⟩ := bytes_at (M3.out.below HB.out) (show i < mn by omega)
        refine ⟨b, off, h1, by rw [h2, mv_byte (H3.out i HI.out) HI.out], fun hp => ?_⟩
        obtain ⟨b', off', h1', h2'⟩ := bytes_at (M3.out.below HB.out) (show i - 1 < mn by omega)
        rw [h1] at h1'
        simp only [Option.some.injEq, Addr.mk.injEq, and_true] at h1'
        obtain ⟨rfl, rfl⟩ := h1'
        rw [h2', mv_byte (H3.out (i - 1) (by have := HI.out; omega)) (by have := HI.out; omega)]
      obtain ⟨bm, om, rfl, cm, cp⟩ := hci
      rcases H3.out i HI.out with hz | hz | hz
      · have HZ := Lib.hid hz
        rw [hz] at cm
        have cm3 : w3.cell? ⟨bm, om + i, none⟩ = some (.int .u8 1) := by
          obtain ⟨b, off, h1, h2⟩ := bytes_at M3.out (show i < mn by omega)
          simp only [Option.some.injEq, Addr.mk.injEq, and_true] at h1
          obtain ⟨rfl, rfl⟩ := h1
          rw [h2, mv_byte (H3.out i HI.out) HI.out, hz]
        have HBM : Hid (bm < w3.heap.size) := Lib.hid (World.block_lt_of_cell? _ _ cm3)
        rcases HR.out.cur with ⟨h0, hO, rfl, rfl⟩ | ⟨hp, hO, hcur⟩
        · have z0 : (i == 0) = true := by simpa using h0
          have z0I : ((i : Int) == 0) = true := by simp; omega
          obtain ⟨kz, hkz⟩ : ∃ k : Int, (0 : Int) = k := ⟨_, rfl⟩
          obtain ⟨dz, hdz⟩ : ∃ k : Int, (0 : Int) = k := ⟨_, rfl⟩
          obtain ⟨ss, hss⟩ : ∃ k : List UInt8, [] = k := ⟨_, rfl⟩
          have HKZ := Lib.hid hkz
          have HDZ := Lib.hid hdz
          have HSS := Lib.hid hss
          have hkb : 0 ≤ kz ∧ kz ≤ 8192 := by omega
          have hdb : 0 ≤ dz ∧ dz ≤ 8192 := by omega
          obtain ⟨hkb, hkb1⟩ := hkb
          obtain ⟨hdb, hdb1⟩ := hdb
          obtain ⟨hjt, RN⟩ := HR.out.keep HI.out HZ.out (by simp) hO
          have HRN := Lib.hid RN
          clear hz h0 hO hkz hdz hss cp RN hjt
          have Q0 := trivial
          go_wp2_with (first
            | ((with_reducible show wpList _ _ _ (⟨some 71, _, _, _, _, _⟩ :: _) _ _); refine appG edK Tryd.underlying31 edInfo rfl rfl _ _ rfl w3.heap.size (.slice a on oc) O rfl (HO.out.alloc _) _ 1 1 [⟨0, 0, []⟩] rfl (oneG _ _ trivial _ _ rfl) H48.out (by have := HB.out.size; simp; omega) (on + 1) (by rw [HON.out]) ?_; intro a5 c5 w5 ho5 hg5
               obtain ⟨g, hg, hg1, hg2, hfr⟩ := ho5.row (Nat.succ_pos _)
               subst hg
               have O5 : Hid (OwnG edK 39 w5 w3.heap.size (.slice (some ⟨g, 0, none⟩) (on + 1) c5) (O ++ [⟨kz, dz, ss⟩])) := Lib.hid (by rw [← HKZ.out, ← HDZ.out, ← HSS.out]; exact ho5)
               have B5 := Lib.hid ((HB.out.alloc HB.out.size (.cells #[.int .i64 0, .int .i64 0, .string ⟨#[]⟩] 39)).grown hg5 (by have := HB.out.size; simp; omega) (fun k hk => (HO.out.lt k hk).1))
               have HG := Lib.hid hg1
               have cm5 : w5.cell? ⟨bm, om + i, none⟩ = some (.int .u8 1) := cell_low B5.out HBM.out cm3
               have e0 : w5.cell? ⟨g, on * 3, none⟩ = some (.int .i64 kz) := by
                 have := O5.out.atG.at_ on (Nat.lt_succ_self on) 0 (.int .i64 kz) (by rw [← HON.out, gd_last]; rfl)
                 simpa [edK] using this
               have e1 : w5.cell? ⟨g, on * 3 + 1, none⟩ = some (.int .i64 dz) := by
                 have := O5.out.atG.at_ on (Nat.lt_succ_self on) 1 (.int .i64 dz) (by rw [← HON.out, gd_last]; rfl)
                 simpa [edK] using this
               have e2 : w5.cell? ⟨g, on * 3 + 2, none⟩ = some (.string (strB ss)) := by
                 have := O5.out.atG.at_ on (Nat.lt_succ_self on) 2 (.string (strB ss)) (by rw [← HON.out, gd_last]; rfl)
                 simpa [edK] using this
               have ff := hfr (on * 3)
               obtain ⟨W6, hW6⟩ : ∃ W, w5.setCell ⟨g, on * 3, none⟩ (.int .i64 (kz + 1)) = W := ⟨_, rfl⟩
               have cm6 : W6.cell? ⟨bm, om + i, none⟩ = some (.int .u8 1) := by
                 rw [← hW6, World.cell?_setCell_other]
                 · exact cm5
                 · intro e; have e3 : g = bm := congrArg Addr.block e; have := HBM.out; have := HG.out; omega
               have O6 : Hid (OwnG edK 39 W6 w3.heap.size (.slice (some ⟨g, 0, none⟩) (on + 1) c5) (O ++ [⟨kz + 1, dz, ss⟩])) := Lib.hid (by rw [← hW6]; exact own_set (e' := ⟨kz + 1, dz, ss⟩) O5.out 0 (by decide) (.int .i64 (kz + 1)) rfl on HON.out)
               have B6 := Lib.hid (show Below w3.heap.size w3 W6 from hW6 ▸ B5.out.setCell HG.out _)
               clear ho5 hg5 hg1 hg2 hfr))
          go_roundg (mn - (i + 1))
          case measure => have := HGH.out; have := HI.out; rw [HMN.out] at this; omega
          case rel => exact ⟨i + 1, j + 1, some ⟨g, 0, none⟩, on + 1, c5, _, [], ⟨0 + 1, 0, []⟩, rfl, by go_num, by go_num, by have := HGH.out; have := HI.out; rw [HMN.out] at this; omega, O6, Lib.hid (by rw [← HKZ.out, ← HDZ.out, ← HSS.out]; exact HRN.out), B6⟩
        · have z0 : (i == 0) = false := by simp; omega
          have z0I : ((i : Int) == 0) = false := by simp; omega
          replace cp := cp hp
          have hp1 : (0 : Int) ≤ (i : Int) - 1 := by omega
          have hp2 : (i : Int) - 1 < (mn : Int) := by omega
          have hp3 : ((i : Int) - 1).toNat = i - 1 := by omega
          have hp4 : IntKind.i64.wrap ((i : Int) - 1) = (i : Int) - 1 := IntWalk.i64_in _ (by omega)
          have hp5 : i - 1 < mn := by omega
          have hp6 : (1 : Int) ≤ (i : Int) := by omega
          have hp7 : 1 ≤ i := by omega
          by_cases hl1 : ms.getD (i - 1) 0 = 1
          · rw [hl1] at cp
            obtain ⟨pn, hpn⟩ : ∃ n, L.length = n := ⟨_, rfl⟩
            have hon2 : on = pn + 1 := by have := HON.out; rw [hO, List.length_append, hpn] at this; simpa using this.symm
            subst hon2
            have HPN := Lib.hid hpn
            have hpI : (pn : Int) ≤ 8192 := by omega
            have hp0 : (0 : Int) ≤ (pn : Int) := by omega
            obtain ⟨g, hga, hg1, hg2, hfr⟩ := HO.out.row (Nat.succ_pos _)
            subst hga
            have HG := Lib.hid hg1
            have cm5 := cm
            have hle := HR.out.eds.le
            obtain ⟨kz, hkz⟩ : ∃ k : Int, (c.k : Int) = k := ⟨_, rfl⟩
            obtain ⟨dz, hdz⟩ : ∃ k : Int, (c.d : Int) = k := ⟨_, rfl⟩
            obtain ⟨ss, hss⟩ : ∃ k : List UInt8, txt c.a = k := ⟨_, rfl⟩
            have HKZ := Lib.hid hkz
            have HDZ := Lib.hid hdz
            have HSS := Lib.hid hss
            have hkb : 0 ≤ kz ∧ kz ≤ 8192 := by omega
            have hdb : 0 ≤ dz ∧ dz ≤ 8192 := by omega
            obtain ⟨hkb, hkb1⟩ := hkb
            obtain ⟨hdb, hdb1⟩ := hdb
            have O5 : Hid (OwnG edK 39 wr w3.heap.size (.slice (some ⟨g, 0, none⟩) (pn + 1) oc) (L ++ [⟨kz, dz, ss⟩])) := Lib.hid (by rw [← HKZ.out, ← HDZ.out, ← HSS.out]; have := HO.out; rw [hO] at this; exact this)
            have B5 := HB
            obtain ⟨hjt, RN⟩ := HR.out.keep HI.out HZ.out (hcur.1 hl1) rfl
            have HRN := Lib.hid RN
            clear hz hl1 hcur hkz hdz hss RN hjt hO hpn hg1 hg2 hle
            have e0 : wr.cell? ⟨g, pn * 3, none⟩ = some (.int .i64 kz) := by
              have := O5.out.atG.at_ pn (Nat.lt_succ_self pn) 0 (.int .i64 kz) (by rw [← HPN.out, gd_last]; rfl)
              simpa [edK] using this
            have e1 : wr.cell? ⟨g, pn * 3 + 1, none⟩ = some (.int .i64 dz) := by
              have := O5.out.atG.at_ pn (Nat.lt_succ_self pn) 1 (.int .i64 dz) (by rw [← HPN.out, gd_last]; rfl)
              simpa [edK] using this
            have e2 : wr.cell? ⟨g, pn * 3 + 2, none⟩ = some (.string (strB ss)) := by
              have := O5.out.atG.at_ pn (Nat.lt_succ_self pn) 2 (.string (strB ss)) (by rw [← HPN.out, gd_last]; rfl)
              simpa [edK] using this
            have ff := hfr (pn * 3)
            obtain ⟨W6, hW6⟩ : ∃ W, wr.setCell ⟨g, pn * 3, none⟩ (.int .i64 (kz + 1)) = W := ⟨_, rfl⟩
            have cm6 : W6.cell? ⟨bm, om + i, none⟩ = some (.int .u8 1) := by
              rw [← hW6, World.cell?_setCell_other]
              · exact cm5
              · intro e; have e3 : g = bm := congrArg Addr.block e; have := HBM.out; have := HG.out; omega
            have O6 : Hid (OwnG edK 39 W6 w3.heap.size (.slice (some ⟨g, 0, none⟩) (pn + 1) oc) (L ++ [⟨kz + 1, dz, ss⟩])) := Lib.hid (by rw [← hW6]; exact own_set (e' := ⟨kz + 1, dz, ss⟩) O5.out 0 (by decide) (.int .i64 (kz + 1)) rfl pn HPN.out)
            have B6 := Lib.hid (show Below w3.heap.size w3 W6 from hW6 ▸ B5.out.setCell HG.out _)
            go_wp2_with fail
            go_roundg (mn - (i + 1))
            case measure => have := HGH.out; have := HI.out; rw [HMN.out] at this; omega
            case rel => exact ⟨i + 1, j + 1, some ⟨g, 0, none⟩, pn + 1, oc, _, L, ⟨c.k + 1, c.d, c.a⟩, rfl, by go_num, by go_num, by have := HGH.out; have := HI.out; rw [HMN.out] at this; omega, O6, Lib.hid (by rw [← HKZ.out, ← HDZ.out, ← HSS.out]; exact HRN.out), B6⟩
          · obtain ⟨pz, hpz⟩ : ∃ z, ms.getD (i - 1) 0 = z := ⟨_, rfl⟩
            have hl2 : ¬ pz = 1 := by rw [← hpz]; exact hl1
            have zp : (pz == 1) = false := by simpa using hl2
            have zp2 : (pz != 1) = true := by simpa using hl2
            clear hl2
            rw [hpz] at cp
            obtain ⟨kz, hkz⟩ : ∃ k : Int, (0 : Int) = k := ⟨_, rfl⟩
            obtain ⟨dz, hdz⟩ : ∃ k : Int, (0 : Int) = k := ⟨_, rfl⟩
            obtain ⟨ss, hss⟩ : ∃ k : List UInt8, [] = k := ⟨_, rfl⟩
            have HKZ := Lib.hid hkz
            have HDZ := Lib.hid hdz
            have HSS := Lib.hid hss
            have hkb : 0 ≤ kz ∧ kz ≤ 8192 := by omega
            have hdb : 0 ≤ dz ∧ dz ≤ 8192 := by omega
            obtain ⟨hkb, hkb1⟩ := hkb
            obtain ⟨hdb, hdb1⟩ := hdb
            obtain ⟨hjt, RN⟩ := HR.out.ends HI.out HZ.out (Classical.byContradiction fun h => hl1 (hcur.2 h)) hO
            have HRN := Lib.hid RN
            clear hz hl1 hcur hkz hdz hss RN hjt hO hpz
            have Q0 := trivial
            go_wp2_with (first
              | ((with_reducible show wpList _ _ _ (⟨some 71, _, _, _, _, _⟩ :: _) _ _); refine appG edK Tryd.underlying31 edInfo rfl rfl _ _ rfl w3.heap.size (.slice a on oc) O rfl (HO.out.alloc _) _ 1 1 [⟨0, 0, []⟩] rfl (oneG _ _ trivial _ _ rfl) H48.out (by have := HB.out.size; simp; omega) (on + 1) (by rw [HON.out]) ?_; intro a5 c5 w5 ho5 hg5
                 obtain ⟨g, hg, hg1, hg2, hfr⟩ := ho5.row (Nat.succ_pos _)
                 subst hg
                 have O5 : Hid (OwnG edK 39 w5 w3.heap.size (.slice (some ⟨g, 0, none⟩) (on + 1) c5) (O ++ [⟨kz, dz, ss⟩])) := Lib.hid (by rw [← HKZ.out, ← HDZ.out, ← HSS.out]; exact ho5)
                 have B5 := Lib.hid ((HB.out.alloc HB.out.size (.cells #[.int .i64 0, .int .i64 0, .string ⟨#[]⟩] 39)).grown hg5 (by have := HB.out.size; simp; omega) (fun k hk => (HO.out.lt k hk).1))
                 have HG := Lib.hid hg1
                 have cm5 : w5.cell? ⟨bm, om + i, none⟩ = some (.int .u8 1) := cell_low B5.out HBM.out cm3
                 have e0 : w5.cell? ⟨g, on * 3, none⟩ = some (.int .i64 kz) := by
                   have := O5.out.atG.at_ on (Nat.lt_succ_self on) 0 (.int .i64 kz) (by rw [← HON.out, gd_last]; rfl)
                   simpa [edK] using this
                 have e1 : w5.cell? ⟨g, on * 3 + 1, none⟩ = some (.int .i64 dz) := by
                   have := O5.out.atG.at_ on (Nat.lt_succ_self on) 1 (.int .i64 dz) (by rw [← HON.out, gd_last]; rfl)
                   simpa [edK] using this
                 have e2 : w5.cell? ⟨g, on * 3 + 2, none⟩ = some (.string (strB ss)) := by
                   have := O5.out.atG.at_ on (Nat.lt_succ_self on) 2 (.string (strB ss)) (by rw [← HON.out, gd_last]; rfl)
                   simpa [edK] using this
                 have ff := hfr (on * 3)
                 obtain ⟨W6, hW6⟩ : ∃ W, w5.setCell ⟨g, on * 3, none⟩ (.int .i64 (kz + 1)) = W := ⟨_, rfl⟩
                 have cm6 : W6.cell? ⟨bm, om + i, none⟩ = some (.int .u8 1) := by
                   rw [← hW6, World.cell?_setCell_other]
                   · exact cm5
                   · intro e; have e3 : g = bm := congrArg Addr.block e; have := HBM.out; have := HG.out; omega
                 have O6 : Hid (OwnG edK 39 W6 w3.heap.size (.slice (some ⟨g, 0, none⟩) (on + 1) c5) (O ++ [⟨kz + 1, dz, ss⟩])) := Lib.hid (by rw [← hW6]; exact own_set (e' := ⟨kz + 1, dz, ss⟩) O5.out 0 (by decide) (.int .i64 (kz + 1)) rfl on HON.out)
                 have B6 := Lib.hid (show Below w3.heap.size w3 W6 from hW6 ▸ B5.out.setCell HG.out _)
                 clear ho5 hg5 hg1 hg2 hfr))
            go_roundg (mn - (i + 1))
            case measure => have := HGH.out; have := HI.out; rw [HMN.out] at this; omega
            case rel => exact ⟨i + 1, j + 1, some ⟨g, 0, none⟩, on + 1, c5, _, O, ⟨1, 0, []⟩, rfl, by go_num, by go_num, by have := HGH.out; have := HI.out; rw [HMN.out] at this; omega, O6, Lib.hid (by rw [← HKZ.out, ← HDZ.out, ← HSS.out]; exact HRN.out), B6⟩
      · have HZ := Lib.hid hz
        rw [hz] at cm
        have cm3 : w3.cell? ⟨bm, om + i, none⟩ = some (.int .u8 2) := by
          obtain ⟨b, off, h1, h2⟩ := bytes_at M3.out (show i < mn by omega)
          simp only [Option.some.injEq, Addr.mk.injEq, and_true] at h1
          obtain ⟨rfl, rfl⟩ := h1
          rw [h2, mv_byte (H3.out i HI.out) HI.out, hz]
        have HBM : Hid (bm < w3.heap.size) := Lib.hid (World.block_lt_of_cell? _ _ cm3)
        rcases HR.out.cur with ⟨h0, hO, rfl, rfl⟩ | ⟨hp, hO, hcur⟩
        · have z0 : (i == 0) = true := by simpa using h0
          have z0I : ((i : Int) == 0) = true := by simp; omega
          obtain ⟨kz, hkz⟩ : ∃ k : Int, (0 : Int) = k := ⟨_, rfl⟩
          obtain ⟨dz, hdz⟩ : ∃ k : Int, (0 : Int) = k := ⟨_, rfl⟩
          obtain ⟨ss, hss⟩ : ∃ k : List UInt8, [] = k := ⟨_, rfl⟩
          have HKZ := Lib.hid hkz
          have HDZ := Lib.hid hdz
          have HSS := Lib.hid hss
          have hkb : 0 ≤ kz ∧ kz ≤ 8192 := by omega
          have hdb : 0 ≤ dz ∧ dz ≤ 8192 := by omega
          obtain ⟨hkb, hkb1⟩ := hkb
          obtain ⟨hdb, hdb1⟩ := hdb
          have HRN := Lib.hid (HR.out.drop HI.out HZ.out hO)
          clear hz h0 hO hkz hdz hss cp
          have Q0 := trivial
          go_wp2_with (first
            | ((with_reducible show wpList _ _ _ (⟨some 71, _, _, _, _, _⟩ :: _) _ _); refine appG edK Tryd.underlying31 edInfo rfl rfl _ _ rfl w3.heap.size (.slice a on oc) O rfl (HO.out.alloc _) _ 1 1 [⟨0, 0, []⟩] rfl (oneG _ _ trivial _ _ rfl) H48.out (by have := HB.out.size; simp; omega) (on + 1) (by rw [HON.out]) ?_; intro a5 c5 w5 ho5 hg5
               obtain ⟨g, hg, hg1, hg2, hfr⟩ := ho5.row (Nat.succ_pos _)
               subst hg
               have O5 : Hid (OwnG edK 39 w5 w3.heap.size (.slice (some ⟨g, 0, none⟩) (on + 1) c5) (O ++ [⟨kz, dz, ss⟩])) := Lib.hid (by rw [← HKZ.out, ← HDZ.out, ← HSS.out]; exact ho5)
               have B5 := Lib.hid ((HB.out.alloc HB.out.size (.cells #[.int .i64 0, .int .i64 0, .string ⟨#[]⟩] 39)).grown hg5 (by have := HB.out.size; simp; omega) (fun k hk => (HO.out.lt k hk).1))
               have HG := Lib.hid hg1
               have cm5 : w5.cell? ⟨bm, om + i, none⟩ = some (.int .u8 2) := cell_low B5.out HBM.out cm3
               have e0 : w5.cell? ⟨g, on * 3, none⟩ = some (.int .i64 kz) := by
                 have := O5.out.atG.at_ on (Nat.lt_succ_self on) 0 (.int .i64 kz) (by rw [← HON.out, gd_last]; rfl)
                 simpa [edK] using this
               have e1 : w5.cell? ⟨g, on * 3 + 1, none⟩ = some (.int .i64 dz) := by
                 have := O5.out.atG.at_ on (Nat.lt_succ_self on) 1 (.int .i64 dz) (by rw [← HON.out, gd_last]; rfl)
                 simpa [edK] using this
               have e2 : w5.cell? ⟨g, on * 3 + 2, none⟩ = some (.string (strB ss)) := by
                 have := O5.out.atG.at_ on (Nat.lt_succ_self on) 2 (.string (strB ss)) (by rw [← HON.out, gd_last]; rfl)
                 simpa [edK] using this
               have ff := hfr (on * 3 + 1)
               obtain ⟨W6, hW6⟩ : ∃ W, w5.setCell ⟨g, on * 3 + 1, none⟩ (.int .i64 (dz + 1)) = W := ⟨_, rfl⟩
               have cm6 : W6.cell? ⟨bm, om + i, none⟩ = some (.int .u8 2) := by
                 rw [← hW6, World.cell?_setCell_other]
                 · exact cm5
                 · intro e; have e3 : g = bm := congrArg Addr.block e; have := HBM.out; have := HG.out; omega
               have O6 : Hid (OwnG edK 39 W6 w3.heap.size (.slice (some ⟨g, 0, none⟩) (on + 1) c5) (O ++ [⟨kz, dz + 1, ss⟩])) := Lib.hid (by rw [← hW6]; exact own_set (e' := ⟨kz, dz + 1, ss⟩) O5.out 1 (by decide) (.int .i64 (dz + 1)) rfl on HON.out)
               have B6 := Lib.hid (show Below w3.heap.size w3 W6 from hW6 ▸ B5.out.setCell HG.out _)
               clear ho5 hg5 hg1 hg2 hfr))
          go_roundg (mn - (i + 1))
          case measure => have := HGH.out; have := HI.out; rw [HMN.out] at this; omega
          case rel => exact ⟨i + 1, j, some ⟨g, 0, none⟩, on + 1, c5, _, [], ⟨0, 0 + 1, []⟩, rfl, rfl, by go_num, by have := HGH.out; have := HI.out; rw [HMN.out] at this; omega, O6, Lib.hid (by rw [← HKZ.out, ← HDZ.out, ← HSS.out]; exact HRN.out), B6⟩
        · have z0 : (i == 0) = false := by simp; omega
          have z0I : ((i : Int) == 0) = false := by simp; omega
          replace cp := cp hp
          have hp1 : (0 : Int) ≤ (i : Int) - 1 := by omega
          have hp2 : (i : Int) - 1 < (mn : Int) := by omega
          have hp3 : ((i : Int) - 1).toNat = i - 1 := by omega
          have hp4 : IntKind.i64.wrap ((i : Int) - 1) = (i : Int) - 1 := IntWalk.i64_in _ (by omega)
          have hp5 : i - 1 < mn := by omega
          have hp6 : (1 : Int) ≤ (i : Int) := by omega
          have hp7 : 1 ≤ i := by omega
          obtain ⟨pn, hpn⟩ : ∃ n, L.length = n := ⟨_, rfl⟩
          have hon2 : on = pn + 1 := by have := HON.out; rw [hO, List.length_append, hpn] at this; simpa using this.symm
          subst hon2
          have HPN := Lib.hid hpn
          have hpI : (pn : Int) ≤ 8192 := by omega
          have hp0 : (0 : Int) ≤ (pn : Int) := by omega
          obtain ⟨g, hga, hg1, hg2, hfr⟩ := HO.out.row (Nat.succ_pos _)
          subst hga
          have HG := Lib.hid hg1
          have cm5 := cm
          have hle := HR.out.eds.le
          obtain ⟨kz, hkz⟩ : ∃ k : Int, (c.k : Int) = k := ⟨_, rfl⟩
          obtain ⟨dz, hdz⟩ : ∃ k : Int, (c.d : Int) = k := ⟨_, rfl⟩
          obtain ⟨ss, hss⟩ : ∃ k : List UInt8, txt c.a = k := ⟨_, rfl⟩
          have HKZ := Lib.hid hkz
          have HDZ := Lib.hid hdz
          have HSS := Lib.hid hss
          have hkb : 0 ≤ kz ∧ kz ≤ 8192 := by omega
          have hdb : 0 ≤ dz ∧ dz ≤ 8192 := by omega
          obtain ⟨hkb, hkb1⟩ := hkb
          obtain ⟨hdb, hdb1⟩ := hdb
          have O5 : Hid (OwnG edK 39 wr w3.heap.size (.slice (some ⟨g, 0, none⟩) (pn + 1) oc) (L ++ [⟨kz, dz, ss⟩])) := Lib.hid (by rw [← HKZ.out, ← HDZ.out, ← HSS.out]; have := HO.out; rw [hO] at this; exact this)
          have B5 := HB
          have HRN := Lib.hid (HR.out.drop HI.out HZ.out rfl)
          clear hz hcur hkz hdz hss hO hpn hg1 hg2 hle
          have e0 : wr.cell? ⟨g, pn * 3, none⟩ = some (.int .i64 kz) := by
            have := O5.out.atG.at_ pn (Nat.lt_succ_self pn) 0 (.int .i64 kz) (by rw [← HPN.out, gd_last]; rfl)
            simpa [edK] using this
          have e1 : wr.cell? ⟨g, pn * 3 + 1, none⟩ = some (.int .i64 dz) := by
            have := O5.out.atG.at_ pn (Nat.lt_succ_self pn) 1 (.int .i64 dz) (by rw [← HPN.out, gd_last]; rfl)
            simpa [edK] using this
          have e2 : wr.cell? ⟨g, pn * 3 + 2, none⟩ = some (.string (strB ss)) := by
            have := O5.out.atG.at_ pn (Nat.lt_succ_self pn) 2 (.string (strB ss)) (by rw [← HPN.out, gd_last]; rfl)
            simpa [edK] using this
          have ff := hfr (pn * 3 + 1)
          obtain ⟨W6, hW6⟩ : ∃ W, wr.setCell ⟨g, pn * 3 + 1, none⟩ (.int .i64 (dz + 1)) = W := ⟨_, rfl⟩
          have cm6 : W6.cell? ⟨bm, om + i, none⟩ = some (.int .u8 2) := by
            rw [← hW6, World.cell?_setCell_other]
            · exact cm5
            · intro e; have e3 : g = bm := congrArg Addr.block e; have := HBM.out; have := HG.out; omega
          have O6 : Hid (OwnG edK 39 W6 w3.heap.size (.slice (some ⟨g, 0, none⟩) (pn + 1) oc) (L ++ [⟨kz, dz + 1, ss⟩])) := Lib.hid (by rw [← hW6]; exact own_set (e' := ⟨kz, dz + 1, ss⟩) O5.out 1 (by decide) (.int .i64 (dz + 1)) rfl pn HPN.out)
          have B6 := Lib.hid (show Below w3.heap.size w3 W6 from hW6 ▸ B5.out.setCell HG.out _)
          go_wp2_with fail
          go_roundg (mn - (i + 1))
          case measure => have := HGH.out; have := HI.out; rw [HMN.out] at this; omega
          case rel => exact ⟨i + 1, j, some ⟨g, 0, none⟩, pn + 1, oc, _, L, ⟨c.k, c.d + 1, c.a⟩, rfl, rfl, by go_num, by have := HGH.out; have := HI.out; rw [HMN.out] at this; omega, O6, Lib.hid (by rw [← HKZ.out, ← HDZ.out, ← HSS.out]; exact HRN.out), B6⟩
      · have HZ := Lib.hid hz
        rw [hz] at cm
        have cm3 : w3.cell? ⟨bm, om + i, none⟩ = some (.int .u8 3) := by
          obtain ⟨b, off, h1, h2⟩ := bytes_at M3.out (show i < mn by omega)
          simp only [Option.some.injEq, Addr.mk.injEq, and_true] at h1
          obtain ⟨rfl, rfl⟩ := h1
          rw [h2, mv_byte (H3.out i HI.out) HI.out, hz]
        have HBM : Hid (bm < w3.heap.size) := Lib.hid (World.block_lt_of_cell? _ _ cm3)
        rcases HR.out.cur with ⟨h0, hO, rfl, rfl⟩ | ⟨hp, hO, hcur⟩
        · have z0 : (i == 0) = true := by simpa using h0
          have z0I : ((i : Int) == 0) = true := by simp; omega
          obtain ⟨kz, hkz⟩ : ∃ k : Int, (0 : Int) = k := ⟨_, rfl⟩
          obtain ⟨dz, hdz⟩ : ∃ k : Int, (0 : Int) = k := ⟨_, rfl⟩
          obtain ⟨ss, hss⟩ : ∃ k : List UInt8, [] = k := ⟨_, rfl⟩
          have HKZ := Lib.hid hkz
          have HDZ := Lib.hid hdz
          have HSS := Lib.hid hss
          have hkb : 0 ≤ kz ∧ kz ≤ 8192 := by omega
          have hdb : 0 ≤ dz ∧ dz ≤ 8192 := by omega
          obtain ⟨hkb, hkb1⟩ := hkb
          obtain ⟨hdb, hdb1⟩ := hdb
          obtain ⟨hjt, m, hm, hmay, RN⟩ := HR.out.add HI.out HZ.out hO HOK.out
          have HRN := Lib.hid RN
          clear hz h0 hO hkz hdz hss cp RN
          have Q0 := trivial
          go_wp2_with (first
            | ((with_reducible show wpList _ _ _ (⟨some 71, _, _, _, _, _⟩ :: _) _ _); refine appG edK Tryd.underlying31 edInfo rfl rfl _ _ rfl w3.heap.size (.slice a on oc) O rfl (HO.out.alloc _) _ 1 1 [⟨0, 0, []⟩] rfl (oneG _ _ trivial _ _ rfl) H48.out (by have := HB.out.size; simp; omega) (on + 1) (by rw [HON.out]) ?_; intro a5 c5 w5 ho5 hg5
               obtain ⟨g, hg, hg1, hg2, hfr⟩ := ho5.row (Nat.succ_pos _)
               subst hg
               have O5 : Hid (OwnG edK 39 w5 w3.heap.size (.slice (some ⟨g, 0, none⟩) (on + 1) c5) (O ++ [⟨kz, dz, ss⟩])) := Lib.hid (by rw [← HKZ.out, ← HDZ.out, ← HSS.out]; exact ho5)
               have B5 := Lib.hid ((HB.out.alloc HB.out.size (.cells #[.int .i64 0, .int .i64 0, .string ⟨#[]⟩] 39)).grown hg5 (by have := HB.out.size; simp; omega) (fun k hk => (HO.out.lt k hk).1))
               have HG := Lib.hid hg1
               have cm5 : w5.cell? ⟨bm, om + i, none⟩ = some (.int .u8 3) := cell_low B5.out HBM.out cm3
               have e0 : w5.cell? ⟨g, on * 3, none⟩ = some (.int .i64 kz) := by
                 have := O5.out.atG.at_ on (Nat.lt_succ_self on) 0 (.int .i64 kz) (by rw [← HON.out, gd_last]; rfl)
                 simpa [edK] using this
               have e1 : w5.cell? ⟨g, on * 3 + 1, none⟩ = some (.int .i64 dz) := by
                 have := O5.out.atG.at_ on (Nat.lt_succ_self on) 1 (.int .i64 dz) (by rw [← HON.out, gd_last]; rfl)
                 simpa [edK] using this
               have e2 : w5.cell? ⟨g, on * 3 + 2, none⟩ = some (.string (strB ss)) := by
                 have := O5.out.atG.at_ on (Nat.lt_succ_self on) 2 (.string (strB ss)) (by rw [← HON.out, gd_last]; rfl)
                 simpa [edK] using this
               clear ho5 hg5 hg1 hg2))
          have hjy : j < n2 := by have := O2b.out.1; omega
          obtain ⟨b2, o2, rfl, cy⟩ := (O2b.out.below B5.out).at_ hjy
          have hjyI : (j : Int) < (n2 : Int) := by omega
          obtain ⟨V, hV⟩ : ∃ V, tg.getD j 0 = V := ⟨_, rfl⟩
          rw [hV] at cy hm
          have BY := Lib.hid (fun W => refBytes_z V m hm hmay W)
          have HJT := Lib.hid hjt
          have f2 := hfr (on * 3 + 2)
          have hn2 : (n2 : Int) ≤ 4096 := by have := O2b.out.1; have := HY4.out; omega
          obtain ⟨W5, hW5⟩ : ∃ W, w5 = W := ⟨_, rfl⟩
          have HW5 := Lib.hid hW5
          rw [hW5] at e2 cy cm5 f2 O5 B5
          rw [hW5]
          have HSZ := Lib.hid (show ss.length + (encF m).length ≤ 9223372036854775807 by
            have h1 := HRN.out.eds.okA
            have h2 := encF_le4 m
            have h3 := HRN.out.eds.le
            rw [← HSS.out]
            simp only [List.length_nil]
            omega)
          have s9 := run_catA ss (encF m) HSZ.out
          clear hV hm hmay hjt hjy e0 e1 hW5
          go_region_with (go_at_call 26; (refine (BY.out _).mono ?_); rintro en w7 ⟨a7, n7, c7, rfl, ho7, hb7⟩; have s7 := run_str ho7.isBytes 9 Tryd.underlying9; have HB7 := Lib.hid (((Below.refl W5.heap.size W5).drew).trans hb7); have O7 := Lib.hid (OwnG.below O5.out HB7.out); have e7 := cell_below e2 HB7.out; have y7 := cell_below cy HB7.out; have f7 := own_free O7.out (on * 3 + 2); clear ho7 hb7)
          all_goals (
            go_wp2
            go_roundg (mn - (i + 1))
            case measure => have := HGH.out; have := HI.out; rw [HMN.out] at this; omega
            case rel => exact ⟨i + 1, j + 1, some ⟨g, 0, none⟩, on + 1, c5, O ++ [⟨kz, dz, ss ++ encF m⟩], [], ⟨0, 0, [] ++ [(m : Int)]⟩, rfl, by go_num, by go_num, by have := HGH.out; have := HI.out; rw [HMN.out] at this; omega, Lib.hid (own_set (e' := ⟨kz, dz, ss ++ encF m⟩) O7.out 2 (by decide) (.string (strB (ss ++ encF m))) rfl on HON.out), Lib.hid (by rw [← HKZ.out, ← HDZ.out, ← HSS.out]; exact HRN.out), Lib.hid ((B5.out.trans (HB7.out.mono B5.out.size)).setCell HG.out _)⟩)
        · have z0 : (i == 0) = false := by simp; omega
          have z0I : ((i : Int) == 0) = false := by simp; omega
          replace cp := cp hp
          have hp1 : (0 : Int) ≤ (i : Int) - 1 := by omega
          have hp2 : (i : Int) - 1 < (mn : Int) := by omega
          have hp3 : ((i : Int) - 1).toNat = i - 1 := by omega
          have hp4 : IntKind.i64.wrap ((i : Int) - 1) = (i : Int) - 1 := IntWalk.i64_in _ (by omega)
          have hp5 : i - 1 < mn := by omega
          have hp6 : (1 : Int) ≤ (i : Int) := by omega
          have hp7 : 1 ≤ i := by omega
          obtain ⟨pn, hpn⟩ : ∃ n, L.length = n := ⟨_, rfl⟩
          have hon2 : on = pn + 1 := by have := HON.out; rw [hO, List.length_append, hpn] at this; simpa using this.symm
          subst hon2
          have HPN := Lib.hid hpn
          have hpI : (pn : Int) ≤ 8192 := by omega
          have hp0 : (0 : Int) ≤ (pn : Int) := by omega
          obtain ⟨g, hga, hg1, hg2, hfr⟩ := HO.out.row (Nat.succ_pos _)
          subst hga
          have HG := Lib.hid hg1
          have cm5 := cm
          have hle := HR.out.eds.le
          obtain ⟨kz, hkz⟩ : ∃ k : Int, (c.k : Int) = k := ⟨_, rfl⟩
          obtain ⟨dz, hdz⟩ : ∃ k : Int, (c.d : Int) = k := ⟨_, rfl⟩
          obtain ⟨ss, hss⟩ : ∃ k : List UInt8, txt c.a = k := ⟨_, rfl⟩
          have HKZ := Lib.hid hkz
          have HDZ := Lib.hid hdz
          have HSS := Lib.hid hss
          have hkb : 0 ≤ kz ∧ kz ≤ 8192 := by omega
          have hdb : 0 ≤ dz ∧ dz ≤ 8192 := by omega
          obtain ⟨hkb, hkb1⟩ := hkb
          obtain ⟨hdb, hdb1⟩ := hdb
          have O5 : Hid (OwnG edK 39 wr w3.heap.size (.slice (some ⟨g, 0, none⟩) (pn + 1) oc) (L ++ [⟨kz, dz, ss⟩])) := Lib.hid (by rw [← HKZ.out, ← HDZ.out, ← HSS.out]; have := HO.out; rw [hO] at this; exact this)
          have B5 := HB
          obtain ⟨hjt, m, hm, hmay, RN⟩ := HR.out.add HI.out HZ.out rfl HOK.out
          have HRN := Lib.hid RN
          clear hz hcur hkz hdz hss hO hpn hg1 hg2 hle RN
          have e0 : wr.cell? ⟨g, pn * 3, none⟩ = some (.int .i64 kz) := by
            have := O5.out.atG.at_ pn (Nat.lt_succ_self pn) 0 (.int .i64 kz) (by rw [← HPN.out, gd_last]; rfl)
            simpa [edK] using this
          have e1 : wr.cell? ⟨g, pn * 3 + 1, none⟩ = some (.int .i64 dz) := by
            have := O5.out.atG.at_ pn (Nat.lt_succ_self pn) 1 (.int .i64 dz) (by rw [← HPN.out, gd_last]; rfl)
            simpa [edK] using this
          have e2 : wr.cell? ⟨g, pn * 3 + 2, none⟩ = some (.string (strB ss)) := by
            have := O5.out.atG.at_ pn (Nat.lt_succ_self pn) 2 (.string (strB ss)) (by rw [← HPN.out, gd_last]; rfl)
            simpa [edK] using this
          go_wp2_with fail
          have hjy : j < n2 := by have := O2b.out.1; omega
          obtain ⟨b2, o2, rfl, cy⟩ := (O2b.out.below B5.out).at_ hjy
          have hjyI : (j : Int) < (n2 : Int) := by omega
          obtain ⟨V, hV⟩ : ∃ V, tg.getD j 0 = V := ⟨_, rfl⟩
          rw [hV] at cy hm
          have BY := Lib.hid (fun W => refBytes_z V m hm hmay W)
          have HJT := Lib.hid hjt
          have f2 := hfr (pn * 3 + 2)
          have hn2 : (n2 : Int) ≤ 4096 := by have := O2b.out.1; have := HY4.out; omega
          obtain ⟨W5, hW5⟩ : ∃ W, wr = W := ⟨_, rfl⟩
          have HW5 := Lib.hid hW5
          rw [hW5] at e2 cy cm5 f2 O5 B5
          rw [hW5]
          have HSZ := Lib.hid (show ss.length + (encF m).length ≤ 9223372036854775807 by
            have h1 := HRN.out.eds.okA
            have h2 := encF_le4 m
            have h3 := HRN.out.eds.le
            rw [← HSS.out]
            have h4 := txt_le c.a
            simp only [List.length_append, List.length_cons, List.length_nil] at h3
            omega)
          have s9 := run_catA ss (encF m) HSZ.out
          clear hV hm hmay hjt hjy e0 e1 hW5
          go_region_with (go_at_call 26; (refine (BY.out _).mono ?_); rintro en w7 ⟨a7, n7, c7, rfl, ho7, hb7⟩; have s7 := run_str ho7.isBytes 9 Tryd.underlying9; have HB7 := Lib.hid (((Below.refl W5.heap.size W5).drew).trans hb7); have O7 := Lib.hid (OwnG.below O5.out HB7.out); have e7 := cell_below e2 HB7.out; have y7 := cell_below cy HB7.out; have f7 := own_free O7.out (pn * 3 + 2); clear ho7 hb7)
          all_goals (
            go_wp2
            go_roundg (mn - (i + 1))
            case measure => have := HGH.out; have := HI.out; rw [HMN.out] at this; omega
            case rel => exact ⟨i + 1, j + 1, some ⟨g, 0, none⟩, pn + 1, oc, L ++ [⟨kz, dz, ss ++ encF m⟩], L, ⟨c.k, c.d, c.a ++ [(m : Int)]⟩, rfl, by go_num, by go_num, by have := HGH.out; have := HI.out; rw [HMN.out] at this; omega, Lib.hid (own_set (e' := ⟨kz, dz, ss ++ encF m⟩) O7.out 2 (by decide) (.string (strB (ss ++ encF m))) rfl pn HPN.out), Lib.hid (by rw [← HKZ.out, ← HDZ.out, ← HSS.out]; exact HRN.out), Lib.hid ((B5.out.trans (HB7.out.mono B5.out.size)).setCell HG.out _)⟩)
    · have hib : decide (i < mn) = false := by simp; omega
      have him : i = mn := by omega
      have HE := Lib.hid (show O = (edits ms tg).map ev by
        unfold edits
        rcases HR.out.cur with ⟨h0, hO, _, _⟩ | ⟨hp, hO, _⟩
        · rw [if_pos (List.length_eq_zero_iff.1 (by rw [HMN.out]; omega)), hO]; rfl
        · have h1 := HR.out.eds.sum
          rw [List.drop_eq_nil_of_le (by rw [HMN.out]; omega), eds] at h1
          rw [if_neg (fun e => by have := congrArg List.length e; rw [HMN.out] at this; simp at this; omega), HF.out, ← h1, hO]; rfl)
      have HAT := Lib.hid HO.out.atG
      clear hi him
      go_wp2
      go_ret2
      rw [← HE.out]
      have e1 := HON.out
      subst e1
      exact ⟨a, oc, rfl, HAT.out, HB3.out.trans (HB.out.mono HB3.out.size)⟩
#print axioms refDiff_good
end Go.Proofs.YtbfaaphijgmabaaDoor
