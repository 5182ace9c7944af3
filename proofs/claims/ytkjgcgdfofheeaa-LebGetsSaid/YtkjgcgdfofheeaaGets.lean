/-
  LebGets: what stands at any place of any bytes, read as a number, a text and an id, as the document's own answers.
-/
import Derived.Test.YtkjgcgdfofheeaaCopy
import Derived.Test.YtkjgcgdfofheeaaAwake
import Derived.Test.YtkjgcgdfofheeaaRefGetText
import Derived.Test.YtkjgcgdfofheeaaGetId
import Derived.Test.YtkjgcgdfofheeaaRefGetId
namespace Go.Proofs.Ytkjgcgdfofheeaa
open Go.RowKit

set_option maxRecDepth 100000 in
set_option maxHeartbeats 400000 in
theorem gets_any (a : Option Addr) (n c : Nat) (l : List UInt8) (at_ most : Int) (w : World) (hb : Bytes w a n c l) (hl : l.length ≤ 140737488355328) :
    Calls Try.prog 4 #[.slice a n c, .int .i64 at_, .int .i64 most] w fun e w' => e = .returned (.bool true) ∧ Below w.heap.size w w' := by
  obtain ⟨rn, ru, re, hR⟩ : ∃ rn ru re, getI l at_ = (rn, ru, re) := ⟨_, _, _, rfl⟩
  obtain ⟨tl, tu, te, hT⟩ : ∃ tl tu te, getT l at_ most = (tl, tu, te) := ⟨_, _, _, rfl⟩
  obtain ⟨dl, du, de, hD⟩ : ∃ dl du de, getD_ l at_ = (dl, du, de) := ⟨_, _, _, rfl⟩
  have hd32 : dl.length = 32 := by have := getD_length l at_; rw [hD] at this; exact this
  have HB := Lib.hid hb
  have HL := Lib.hid hl
  have HR := Lib.hid hR
  have HT := Lib.hid hT
  have HD := Lib.hid hD
  have H32 := Lib.hid hd32
  clear hb hl hR hT hD hd32
  go_enter Try.func4, Try.ntmps4
  -- the number
  go_wp2_with fail
  refine (copy_any _ _ _ _ _ HB.out HL.out).mono ?_
  rintro e w1 ⟨a1, n1, c1, rfl, hown1, hbel1⟩
  go_wp2_with fail
  refine (get_any _ _ _ _ _ _ hown1.isBytes _ _ _ HR.out).mono ?_
  rintro e w2 ⟨rfl, rfl⟩
  go_wp2_with fail
  refine (refGet_any _ _ _ _ _ _ (HB.out.below hbel1) _ _ _ HR.out).mono ?_
  rintro e w2 ⟨rfl, rfl⟩
  go_wp2_with fail
  -- the text
  refine (copy_any _ _ _ _ _ (HB.out.below hbel1) HL.out).mono ?_
  rintro e w2 ⟨a2, n2, c2, rfl, hown2, hbel2⟩
  have hb2 := hbel1.trans (hbel2.mono hbel1.size)
  clear hbel1 hbel2 hown1
  go_wp2_with fail
  refine (getText_any _ _ _ _ _ _ _ hown2.isBytes).mono ?_
  rintro e w3 ⟨he, rfl⟩
  rw [HT.out] at he
  obtain rfl : e = .returned (.tuple #[.string (strB tl), .int .i64 tu, .int .i64 te]) := he
  go_wp2_with fail
  refine (refGetText_any _ _ _ _ _ _ _ (HB.out.below hb2)).mono ?_
  rintro e w3 ⟨he, rfl⟩
  rw [HT.out] at he
  obtain rfl : e = .returned (.tuple #[.string (strB tl), .int .i64 tu, .int .i64 te]) := he
  go_wp2_with fail
  -- the id
  refine (copy_any _ _ _ _ _ (HB.out.below hb2) HL.out).mono ?_
  rintro e w3 ⟨a3, n3, c3, rfl, hown3, hbel3⟩
  have hb3 := hb2.trans (hbel3.mono hb2.size)
  clear hb2 hbel3 hown2
  go_wp2_with fail
  refine (getId_any _ _ _ _ _ _ hown3.isBytes).mono ?_
  rintro e w4 ⟨he, hbel4⟩
  rw [HD.out] at he
  obtain rfl : e = .returned (.tuple #[.agg (idCells dl), .int .i64 du, .int .i64 de]) := he
  have hb4 := hb3.trans (hbel4.mono hb3.size)
  clear hb3 hbel4 hown3
  go_wp2_with (first
    | ((with_reducible show wpList _ _ _ (⟨some 15, _, _, _, _, _⟩ :: _) _ _); refine alloc_id rfl rfl ?_; intro w5 hid5 hbel5 hsz5; have HS5 := Lib.hid hsz5; clear hsz5)
    | ((with_reducible show wpList _ _ _ (⟨none, .store 41 (.tmp 15) (.tmp 80), _, _, _, _⟩ :: _) _ _); refine store_id rfl (.tmp 15) (.tmp 80) rfl _ _ dl rfl rfl hid5 H32.out ?_; intro w6 hid6 hgr6 hsz6; have HS6 := Lib.hid hsz6; clear hsz6))
  have hb6 : Below w.heap.size w w6 := (hb4.trans (hbel5.mono hb4.size)).grown hgr6 (by have := hb4.size; have := HS5.out; omega) (fun k hk => by have := hb4.size; simp at hk; omega)
  have hlt6 := hid6.lt
  clear hid5 hgr6 hbel5
  refine (refGetId_any _ _ _ _ _ _ (HB.out.below hb6)).mono ?_
  rintro e w7 ⟨he, hbel7⟩
  rw [HD.out] at he
  obtain rfl : e = .returned (.tuple #[.agg (idCells dl), .int .i64 du, .int .i64 de]) := he
  have hid7 := hid6.below hbel7
  have hb7 := hb6.trans (hbel7.mono hb6.size)
  have hlt7 := hid7.lt
  clear hbel7 hid6 hb6
  go_wp2_with (first
    | ((with_reducible show wpList _ _ _ (⟨some 16, _, _, _, _, _⟩ :: _) _ _); refine alloc_id rfl rfl ?_; intro w8 hid8 hbel8 hsz8; have HS8 := Lib.hid hsz8; clear hsz8)
    | ((with_reducible show wpList _ _ _ (⟨none, .store 41 (.tmp 16) (.tmp 87), _, _, _, _⟩ :: _) _ _); refine store_id rfl (.tmp 16) (.tmp 87) rfl _ _ dl rfl rfl hid8 H32.out ?_; intro w9 hid9 hgr9 hsz9; have HS9 := Lib.hid hsz9; clear hsz9; have hid79 := (hid7.below hbel8).grown hgr9 (by simp; omega))
    | ((with_reducible show wpList _ _ _ (⟨some 90, _, _, _, _, _⟩ :: _) _ _); refine load_id rfl (.tmp 15) rfl _ _ rfl hid79 ?_)
    | ((with_reducible show wpList _ _ _ (⟨some 91, _, _, _, _, _⟩ :: _) _ _); refine load_id rfl (.tmp 16) rfl _ _ rfl hid9 ?_)
    | ((with_reducible show wpList _ _ _ (⟨some 92, _, _, _, _, _⟩ :: _) _ _); refine eql_id rfl (.tmp 90) (.tmp 91) _ rfl dl H32.out rfl rfl ?_))
  have hb9 : Below w.heap.size w w9 := (hb7.trans (hbel8.mono hb7.size)).grown hgr9 (by have := hb7.size; have := HS8.out; omega) (fun k hk => by have := hb7.size; simp at hk; omega)
  clear hid9 hid79 hid8 hid7
  refine (awake_any _).mono ?_
  rintro e w10 ⟨rfl, hbel10⟩
  go_wp2_with fail
  go_ret
  exact ⟨rfl, hb9.trans (hbel10.mono hb9.size)⟩
#print axioms gets_any
end Go.Proofs.Ytkjgcgdfofheeaa
