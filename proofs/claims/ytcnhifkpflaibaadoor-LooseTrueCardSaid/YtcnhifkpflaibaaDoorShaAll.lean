/-
  Merged: ShaMath, ShaRot, ShaSpread, ShaTurn, ShaHash, ShaPure, ShaEnd, ShaWrite, ShaSumM, ShaSum, ShaSumP.
-/
import Derived.WalkKit
import Derived.Test.YtcnhifkpflaibaaDoorProg
import Derived.WalkSpells
import Derived.Lib.Hide
import Derived.Test.YtcnhifkpflaibaaDoorRow
import Derived.Test.YtcnhifkpflaibaaDoorBytes
import Derived.Deep.LoopGhost
import Derived.StillTailTactics
import Derived.BigQuiet
import Derived.Laws.CopyOwn
import Derived.Test.YtcnhifkpflaibaaDoorIds
import Derived.Deep.RegionHeld
import Derived.Deep.RegionWith
namespace Go.Proofs.YtcnhifkpflaibaaDoor

/-- Turned to the right. -/
def rotr (n : Nat) (x : UInt32) : UInt32 := (x >>> UInt32.ofNat n) ||| (x <<< UInt32.ofNat (32 - n))

theorem u32_xor_w (a b : UInt32) : bits .xor .u32 (a.toNat : Int) (b.toNat : Int) = ((a ^^^ b).toNat : Int) := by
  have := (u32_xor_nat a.toNat b.toNat a.toNat_lt b.toNat_lt)
  rw [this, UInt32.toNat_xor]
theorem u32_and_w (a b : UInt32) : bits .and .u32 (a.toNat : Int) (b.toNat : Int) = ((a &&& b).toNat : Int) := by
  have := (u32_and_nat a.toNat b.toNat a.toNat_lt b.toNat_lt)
  rw [this, UInt32.toNat_and]
theorem u32_or_w (a b : UInt32) : bits .or .u32 (a.toNat : Int) (b.toNat : Int) = ((a ||| b).toNat : Int) := by
  have := (u32_or_nat a.toNat b.toNat a.toNat_lt b.toNat_lt)
  rw [this, UInt32.toNat_or]
theorem u32_add_w (a b : UInt32) : IntKind.u32.wrap ((a.toNat : Int) + (b.toNat : Int)) = ((a + b).toNat : Int) := by
  rw [IntKind.wrap_u32, UInt32.toNat_add]; omega

theorem u32_add_m (a b : UInt32) : ((a.toNat : Int) + (b.toNat : Int)) % 4294967296 = ((a + b).toNat : Int) := by
  rw [UInt32.toNat_add]; omega

theorem toNat_rotr (n : Nat) (x : UInt32) (h0 : 0 < n) (h1 : n < 32) : (rotr n x).toNat = (x.toNat * 2 ^ (32 - n) % 4294967296) ||| (x.toNat / 2 ^ n) := by
  have e1 : (UInt32.ofNat n).toNat = n := by simp; omega
  have e2 : (UInt32.ofNat (32 - n)).toNat = 32 - n := by simp; omega
  unfold rotr
  rw [UInt32.toNat_or, UInt32.toNat_shiftRight, UInt32.toNat_shiftLeft, e1, e2, Nat.mod_eq_of_lt h1, Nat.mod_eq_of_lt (by omega : 32 - n < 32), Nat.or_comm, Nat.shiftLeft_eq, Nat.shiftRight_eq_div_pow]

theorem right_form (n : Nat) (x : UInt32) (h0 : 0 < n) (h1 : n < 32) : bits .or .u32 ((x.toNat : Int) * 2 ^ (32 - n) % 4294967296) ((x.toNat : Int) / 2 ^ n) = ((rotr n x).toNat : Int) := by
  have hx := x.toNat_lt
  have hd : x.toNat / 2 ^ n < 4294967296 := Nat.lt_of_le_of_lt (Nat.div_le_self _ _) hx
  have := u32_or_nat (x.toNat * 2 ^ (32 - n) % 4294967296) (x.toNat / 2 ^ n) (Nat.mod_lt _ (by omega)) hd
  rw [toNat_rotr n x h0 h1, ← this]
  congr 1

theorem rot_form (n : Nat) (x : UInt32) (h0 : 0 < n) (h1 : n < 32) : bits .or .u32 ((x.toNat : Int) / 2 ^ n) ((x.toNat : Int) * 2 ^ (32 - n) % 4294967296) = ((rotr n x).toNat : Int) := by
  have hx := x.toNat_lt
  have hd : x.toNat / 2 ^ n < 4294967296 := Nat.lt_of_le_of_lt (Nat.div_le_self _ _) hx
  have := u32_or_nat (x.toNat / 2 ^ n) (x.toNat * 2 ^ (32 - n) % 4294967296) hd (Nat.mod_lt _ (by omega))
  rw [toNat_rotr n x h0 h1, Nat.or_comm, ← this]
  congr 1

theorem neg_mask : ∀ n : Fin 32, 0 < n.val → bits .and .u64 (IntKind.u64.wrap (-(n.val : Int))) 31 = ((32 - n.val : Nat) : Int) := by decide +kernel

theorem neg_mask' (n : Nat) (h0 : 0 < n) (h1 : n < 32) : bits .and .u64 (IntKind.u64.wrap (-(n : Int))) 31 = ((32 - n : Nat) : Int) := neg_mask ⟨n, h1⟩ h0

/-- Four bytes as a word, the highest first. -/
def word4 (a b c d : UInt8) : UInt32 := (((a.toUInt32 <<< 24) ||| (b.toUInt32 <<< 16)) ||| (c.toUInt32 <<< 8)) ||| d.toUInt32

theorem sh_form (x : UInt8) (k : Nat) (hk : k < 32) : ((x.toNat : Int) % 4294967296 * (2 ^ k : Nat) % 4294967296) = (((x.toUInt32 <<< UInt32.ofNat k).toNat : Nat) : Int) := by
  have hx : x.toNat < 256 := x.toNat_lt
  have e1 : (UInt32.ofNat k).toNat = k := by simp; omega
  rw [UInt32.toNat_shiftLeft, e1, Nat.mod_eq_of_lt hk, Nat.shiftLeft_eq, UInt8.toNat_toUInt32]
  rw [show ((x.toNat : Int) % 4294967296) = x.toNat from by omega]
  simp

theorem word_form (x0 x1 x2 x3 : UInt8) :
    bits .or .u32 (bits .or .u32 (bits .or .u32 ((x0.toNat : Int) % 4294967296 * 16777216 % 4294967296) ((x1.toNat : Int) % 4294967296 * 65536 % 4294967296)) ((x2.toNat : Int) % 4294967296 * 256 % 4294967296)) ((x3.toNat : Int) % 4294967296) = ((word4 x0 x1 x2 x3).toNat : Int) := by
  have h0 := sh_form x0 24 (by omega)
  have h1 := sh_form x1 16 (by omega)
  have h2 := sh_form x2 8 (by omega)
  have h3 : ((x3.toNat : Int) % 4294967296) = ((x3.toUInt32.toNat : Nat) : Int) := by
    have hx : x3.toNat < 256 := x3.toNat_lt
    rw [UInt8.toNat_toUInt32]; omega
  simp only [Nat.reducePow] at h0 h1 h2
  rw [show (16777216 : Int) = ((16777216 : Nat) : Int) from rfl, show (65536 : Int) = ((65536 : Nat) : Int) from rfl, show (256 : Int) = ((256 : Nat) : Int) from rfl, h0, h1, h2, h3, u32_or_w, u32_or_w, u32_or_w]
  rfl

/-- A block's 16 words. -/
def first16 (b : List UInt8) : List UInt32 := (List.range 16).map fun t => word4 (b.getD (4 * t) 0) (b.getD (4 * t + 1) 0) (b.getD (4 * t + 2) 0) (b.getD (4 * t + 3) 0)

def sig0 (x : UInt32) : UInt32 := (rotr 7 x ^^^ rotr 18 x) ^^^ (x >>> 3)
def sig1 (x : UInt32) : UInt32 := (rotr 17 x ^^^ rotr 19 x) ^^^ (x >>> 10)

/-- The next word. -/
def nextW (l : List UInt32) : UInt32 := ((sig1 (l.getD (l.length - 2) 0) + l.getD (l.length - 7) 0) + sig0 (l.getD (l.length - 15) 0)) + l.getD (l.length - 16) 0

/-- The words so far. -/
def sched (b : List UInt8) : Nat → List UInt32
  | 0 => first16 b
  | n + 1 => sched b n ++ [nextW (sched b n)]

theorem sched_length (b : List UInt8) (n : Nat) : (sched b n).length = 16 + n := by
  induction n with
  | zero => simp [sched, first16]
  | succ n ih => rw [sched, List.length_append, ih]; simp; omega

theorem first16_getD (b : List UInt8) (t : Nat) (h : t < 16) : (first16 b).getD t 0 = word4 (b.getD (4 * t) 0) (b.getD (4 * t + 1) 0) (b.getD (4 * t + 2) 0) (b.getD (4 * t + 3) 0) := by
  unfold first16
  rw [List.getD_eq_getElem?_getD, List.getElem?_map, List.getElem?_range h]
  rfl

theorem take_set_one {α : Type} [Inhabited α] {m l : List α} {j : Nat} {x d : α} (h : m.take j = l.take j) (hm : j < m.length) (hl : j < l.length) (hx : x = l.getD j d) : (m.set j x).take (j + 1) = l.take (j + 1) := by
  rw [List.take_succ_eq_append_getElem (by simpa using hm), List.take_succ_eq_append_getElem hl, List.take_set_of_le (Nat.le_refl _), h]
  simp [hx, hl]

theorem take_set_app {α : Type} {m l : List α} {x : α} (h : m.take l.length = l) (hm : l.length < m.length) : (m.set l.length x).take (l.length + 1) = l ++ [x] := by
  rw [List.take_succ_eq_append_getElem (by simpa using hm), List.take_set_of_le (Nat.le_refl _), h]
  simp

theorem getD_of_take {α : Type} {m l : List α} {n i : Nat} {d : α} (h : m.take n = l) (hi : i < n) : m.getD i d = l.getD i d := by
  rw [← h, List.getD_eq_getElem?_getD, List.getD_eq_getElem?_getD, List.getElem?_take, if_pos hi]

theorem shr_form (y : UInt32) (k : Nat) (hk : k < 32) : ((y.toNat : Int) / (2 ^ k : Nat)) = (((y >>> UInt32.ofNat k).toNat : Nat) : Int) := by
  have e1 : (UInt32.ofNat k).toNat = k := by simp; omega
  rw [UInt32.toNat_shiftRight, e1, Nat.mod_eq_of_lt hk, Nat.shiftRight_eq_div_pow]
  simp
theorem sig1_form (y : UInt32) : bits .xor .u32 (bits .xor .u32 ((rotr 17 y).toNat : Int) ((rotr 19 y).toNat : Int)) ((y.toNat : Int) / 1024) = ((sig1 y).toNat : Int) := by
  have h := shr_form y 10 (by omega)
  simp only [Nat.reducePow] at h
  rw [show (1024 : Int) = ((1024 : Nat) : Int) from rfl, h, u32_xor_w, u32_xor_w]
  rfl

theorem sig0_form (y : UInt32) : bits .xor .u32 (bits .xor .u32 ((rotr 7 y).toNat : Int) ((rotr 18 y).toNat : Int)) ((y.toNat : Int) / 8) = ((sig0 y).toNat : Int) := by
  have h := shr_form y 3 (by omega)
  simp only [Nat.reducePow] at h
  rw [show (8 : Int) = ((8 : Nat) : Int) from rfl, h, u32_xor_w, u32_xor_w]
  rfl

theorem next_form (y2 y7 y15 y16 : UInt32) :
    (bits .xor .u32 (bits .xor .u32 ((rotr 17 y2).toNat : Int) ((rotr 19 y2).toNat : Int)) ((y2.toNat : Int) / 1024) + (y7.toNat : Int) + bits .xor .u32 (bits .xor .u32 ((rotr 7 y15).toNat : Int) ((rotr 18 y15).toNat : Int)) ((y15.toNat : Int) / 8) + (y16.toNat : Int)) % 4294967296
      = ((((sig1 y2 + y7) + sig0 y15) + y16).toNat : Int) := by
  rw [sig1_form, sig0_form, UInt32.toNat_add, UInt32.toNat_add, UInt32.toNat_add]
  omega
/-- The rounds' words, and the first state. -/
def roundK : List UInt32 := [0x428a2f98, 0x71374491, 0xb5c0fbcf, 0xe9b5dba5, 0x3956c25b, 0x59f111f1, 0x923f82a4, 0xab1c5ed5, 0xd807aa98, 0x12835b01, 0x243185be, 0x550c7dc3, 0x72be5d74, 0x80deb1fe, 0x9bdc06a7, 0xc19bf174, 0xe49b69c1, 0xefbe4786, 0x0fc19dc6, 0x240ca1cc, 0x2de92c6f, 0x4a7484aa, 0x5cb0a9dc, 0x76f988da, 0x983e5152, 0xa831c66d, 0xb00327c8, 0xbf597fc7, 0xc6e00bf3, 0xd5a79147, 0x06ca6351, 0x14292967, 0x27b70a85, 0x2e1b2138, 0x4d2c6dfc, 0x53380d13, 0x650a7354, 0x766a0abb, 0x81c2c92e, 0x92722c85, 0xa2bfe8a1, 0xa81a664b, 0xc24b8b70, 0xc76c51a3, 0xd192e819, 0xd6990624, 0xf40e3585, 0x106aa070, 0x19a4c116, 0x1e376c08, 0x2748774c, 0x34b0bcb5, 0x391c0cb3, 0x4ed8aa4a, 0x5b9cca4f, 0x682e6ff3, 0x748f82ee, 0x78a5636f, 0x84c87814, 0x8cc70208, 0x90befffa, 0xa4506ceb, 0xbef9a3f7, 0xc67178f2]
def firstH : List UInt32 := [0x6a09e667, 0xbb67ae85, 0x3c6ef372, 0xa54ff53a, 0x510e527f, 0x9b05688c, 0x1f83d9ab, 0x5be0cd19]

/-- The eight words of a round. -/
structure Reg where
  (a b c d e f g h : UInt32)

def bigS1 (e : UInt32) : UInt32 := (rotr 6 e ^^^ rotr 11 e) ^^^ rotr 25 e
def bigS0 (a : UInt32) : UInt32 := (rotr 2 a ^^^ rotr 13 a) ^^^ rotr 22 a
def chF (e f g : UInt32) : UInt32 := (e &&& f) ^^^ (~~~e &&& g)
def majF (a b c : UInt32) : UInt32 := ((a &&& b) ^^^ (a &&& c)) ^^^ (b &&& c)
def firstF (r : Reg) (k w : UInt32) : UInt32 := (((r.h + bigS1 r.e) + chF r.e r.f r.g) + k) + w
def stepF (k w : UInt32) (r : Reg) : Reg := ⟨(firstF r k w + bigS0 r.a) + majF r.a r.b r.c, r.a, r.b, r.c, r.d + firstF r k w, r.e, r.f, r.g⟩
def runF (W : List UInt32) : Nat → Reg → Reg
  | 0, r => r
  | n + 1, r => stepF (roundK.getD n 0) (W.getD n 0) (runF W n r)
def regOf (l : List UInt32) : Reg := ⟨l.getD 0 0, l.getD 1 0, l.getD 2 0, l.getD 3 0, l.getD 4 0, l.getD 5 0, l.getD 6 0, l.getD 7 0⟩
/-- The state behind a block. -/
def turnF (l : List UInt32) (b : List UInt8) : List UInt32 :=
  let r := runF (sched b 48) 64 (regOf l)
  [l.getD 0 0 + r.a, l.getD 1 0 + r.b, l.getD 2 0 + r.c, l.getD 3 0 + r.d, l.getD 4 0 + r.e, l.getD 5 0 + r.f, l.getD 6 0 + r.g, l.getD 7 0 + r.h]
theorem not_form (e : UInt32) : bits .xor .u32 IntKind.u32.max (e.toNat : Int) = ((~~~e).toNat : Int) := by
  have h : (0xffffffff : UInt32) ^^^ e = ~~~e := by
    apply UInt32.toBitVec_inj.1
    rw [UInt32.toBitVec_xor, UInt32.toBitVec_not]
    exact BitVec.allOnes_xor
  have h2 := u32_xor_w (0xffffffff : UInt32) e
  rw [h] at h2
  exact h2

theorem bigS1_form (e : UInt32) : bits .xor .u32 (bits .xor .u32 ((rotr 6 e).toNat : Int) ((rotr 11 e).toNat : Int)) ((rotr 25 e).toNat : Int) = ((bigS1 e).toNat : Int) := by
  rw [u32_xor_w, u32_xor_w]; rfl
theorem bigS0_form (e : UInt32) : bits .xor .u32 (bits .xor .u32 ((rotr 2 e).toNat : Int) ((rotr 13 e).toNat : Int)) ((rotr 22 e).toNat : Int) = ((bigS0 e).toNat : Int) := by
  rw [u32_xor_w, u32_xor_w]; rfl
theorem chF_form (e f g : UInt32) : bits .xor .u32 (bits .and .u32 (e.toNat : Int) (f.toNat : Int)) (bits .and .u32 (bits .xor .u32 IntKind.u32.max (e.toNat : Int)) (g.toNat : Int)) = ((chF e f g).toNat : Int) := by
  rw [not_form, u32_and_w, u32_and_w, u32_xor_w]; rfl
theorem majF_form (a b c : UInt32) : bits .xor .u32 (bits .xor .u32 (bits .and .u32 (a.toNat : Int) (b.toNat : Int)) (bits .and .u32 (a.toNat : Int) (c.toNat : Int))) (bits .and .u32 (b.toNat : Int) (c.toNat : Int)) = ((majF a b c).toNat : Int) := by
  rw [u32_and_w, u32_and_w, u32_and_w, u32_xor_w, u32_xor_w]; rfl

theorem firstF_toNat (r : Reg) (k w : UInt32) : ((firstF r k w).toNat : Int) = ((r.h.toNat : Int) + ((bigS1 r.e).toNat : Int) + ((chF r.e r.f r.g).toNat : Int) + (k.toNat : Int) + (w.toNat : Int)) % 4294967296 := by
  unfold firstF
  rw [UInt32.toNat_add, UInt32.toNat_add, UInt32.toNat_add, UInt32.toNat_add]; omega

theorem stepA_form (a b c d e f g h k w : UInt32) :
    (((h.toNat : Int) + bits .xor .u32 (bits .xor .u32 ((rotr 6 e).toNat : Int) ((rotr 11 e).toNat : Int)) ((rotr 25 e).toNat : Int) + bits .xor .u32 (bits .and .u32 (e.toNat : Int) (f.toNat : Int)) (bits .and .u32 (bits .xor .u32 IntKind.u32.max (e.toNat : Int)) (g.toNat : Int)) + (k.toNat : Int) + (w.toNat : Int)
      + bits .xor .u32 (bits .xor .u32 ((rotr 2 a).toNat : Int) ((rotr 13 a).toNat : Int)) ((rotr 22 a).toNat : Int)) % 4294967296
      + bits .xor .u32 (bits .xor .u32 (bits .and .u32 (a.toNat : Int) (b.toNat : Int)) (bits .and .u32 (a.toNat : Int) (c.toNat : Int))) (bits .and .u32 (b.toNat : Int) (c.toNat : Int))) % 4294967296
      = ((stepF k w ⟨a, b, c, d, e, f, g, h⟩).a.toNat : Int) := by
  have h1 := firstF_toNat ⟨a, b, c, d, e, f, g, h⟩ k w
  rw [bigS1_form, chF_form, bigS0_form, majF_form]
  show _ = (((firstF ⟨a, b, c, d, e, f, g, h⟩ k w + bigS0 a) + majF a b c).toNat : Int)
  rw [UInt32.toNat_add, UInt32.toNat_add]
  simp only [] at h1
  omega

theorem stepE_form (a b c d e f g h k w : UInt32) :
    ((d.toNat : Int) + ((h.toNat : Int) + bits .xor .u32 (bits .xor .u32 ((rotr 6 e).toNat : Int) ((rotr 11 e).toNat : Int)) ((rotr 25 e).toNat : Int) + bits .xor .u32 (bits .and .u32 (e.toNat : Int) (f.toNat : Int)) (bits .and .u32 (bits .xor .u32 IntKind.u32.max (e.toNat : Int)) (g.toNat : Int)) + (k.toNat : Int) + (w.toNat : Int)) % 4294967296) % 4294967296
      = ((stepF k w ⟨a, b, c, d, e, f, g, h⟩).e.toNat : Int) := by
  have h1 := firstF_toNat ⟨a, b, c, d, e, f, g, h⟩ k w
  rw [bigS1_form, chF_form]
  show _ = ((d + firstF ⟨a, b, c, d, e, f, g, h⟩ k w).toNat : Int)
  rw [UInt32.toNat_add]
  simp only [] at h1
  omega
#print axioms rot_form
end Go.Proofs.YtcnhifkpflaibaaDoor

namespace Go.Proofs.YtcnhifkpflaibaaDoor
open Go.RowKit

theorem ret_u32 {a b : Int} (h : a = b) : Ending.returned (.int .u32 a) = .returned (.int .u32 b) := by rw [h]

set_option maxRecDepth 100000 in
set_option maxHeartbeats 400000 in
theorem rotl_any (x : UInt32) (n : Nat) (w : World) (h0 : 0 < n) (h1 : n < 32) :
    Calls Tryd.prog 82 #[.int .u32 (x.toNat : Int), .int .i64 (-(n : Int))] w fun e w' => e = .returned (.int .u32 ((rotr n x).toNat : Int)) ∧ w = w' := by
  have hm := neg_mask' n h0 h1
  have hr := Lib.hid (right_form n x h0 h1)
  have hc : ((32 - n : Nat) : Int) = 32 - (n : Int) := by omega
  have hx := x.toNat_lt
  rw [hc] at hm
  clear hc
  go_enter Tryd.func82, Tryd.ntmps82
  go_wp2
  go_ret
  exact ⟨ret_u32 (by rw [show 32 - (32 - n) = n from by omega]; exact hr.out), rfl⟩

set_option maxRecDepth 100000 in
set_option maxHeartbeats 400000 in
theorem rot_any (x : UInt32) (w : World) (n : Nat) (h0 : 0 < n) (h1 : n < 32) :
    Calls Tryd.prog 56 #[.int .u32 (x.toNat : Int), .int .u64 n] w fun e w' => e = .returned (.int .u32 ((rotr n x).toNat : Int)) ∧ w = w' := by
  have hr := Lib.hid (rot_form n x h0 h1)
  have hx := x.toNat_lt
  go_enter Tryd.func56, Tryd.ntmps56
  go_wp2
  go_ret
  exact ⟨ret_u32 hr.out, rfl⟩

set_option maxRecDepth 100000 in
set_option maxHeartbeats 400000 in
theorem right_any (x : UInt32) (n : Nat) (w : World) (h0 : 0 < n) (h1 : n < 32) :
    Calls Tryd.prog 73 #[.int .u32 (x.toNat : Int), .int .i64 n] w fun e w' => e = .returned (.int .u32 ((rotr n x).toNat : Int)) ∧ w = w' := by
  go_enter Tryd.func73, Tryd.ntmps73
  go_wp2_with (go_at_call 82; go_must (refine (rotl_any _ _ _ h0 h1).mono ?_); rintro e w1 ⟨rfl, rfl⟩)
  go_ret
  exact ⟨rfl, rfl⟩
theorem right_lit (x : UInt32) (z : Int) (w : World) (h0 : 0 < z) (h1 : z < 32) :
    Calls Tryd.prog 73 #[.int .u32 (x.toNat : Int), .int .i64 z] w fun e w' => e = .returned (.int .u32 ((rotr z.toNat x).toNat : Int)) ∧ w = w' := by
  obtain ⟨n, rfl⟩ := Int.eq_ofNat_of_zero_le (show 0 ≤ z by omega)
  exact right_any x n w (by omega) (by omega)

theorem rot_lit (x : UInt32) (z : Int) (w : World) (h0 : 0 < z) (h1 : z < 32) :
    Calls Tryd.prog 56 #[.int .u32 (x.toNat : Int), .int .u64 z] w fun e w' => e = .returned (.int .u32 ((rotr z.toNat x).toNat : Int)) ∧ w = w' := by
  obtain ⟨n, rfl⟩ := Int.eq_ofNat_of_zero_le (show 0 ≤ z by omega)
  exact rot_any x w n (by omega) (by omega)
#print axioms right_any
end Go.Proofs.YtcnhifkpflaibaaDoor

namespace Go.Proofs.YtcnhifkpflaibaaDoor
open Go.RowKit

/-- A word as the model has it. -/
def U (x : UInt32) : Value := .int .u32 (x.toNat : Int)
def wordsV (l : List UInt32) : List Value := l.map U
def bytesV (l : List UInt8) : List Value := l.map B
def zeroW (n : Nat) : List UInt32 := List.replicate n 0

theorem size_byte (W : World) : (sizeOf 5).run Tryd.prog W = .ok 1 W := by kernel_rfl
theorem wordsV_length (l : List UInt32) : (wordsV l).length = l.length := by simp [wordsV]
theorem bytesV_length (l : List UInt8) : (bytesV l).length = l.length := by simp [bytesV]
theorem wordsV_one (l : List UInt32) : ∀ v ∈ wordsV l, v.oneCell' = true := fun v hv => by obtain ⟨x, _, rfl⟩ := List.mem_map.1 hv; rfl
theorem bytesV_one (l : List UInt8) : ∀ v ∈ bytesV l, v.oneCell' = true := fun v hv => by obtain ⟨x, _, rfl⟩ := List.mem_map.1 hv; rfl
theorem info_64w : (Tryd.prog.info? 98).map (·.size) = some 64 := by kernel_rfl
theorem zero_64w (w : World) : (zeroValue 98).run Tryd.prog w = .ok (.agg (wordsV (zeroW 64)).toArray) w := by kernel_rfl

set_option maxRecDepth 100000 in
set_option maxHeartbeats 400000 in
theorem spread_any (b : List UInt8) (hb : b.length = 64) (w : World) :
    Calls Tryd.prog 72 #[.agg (bytesV b).toArray] w fun e w' => e = .returned (.agg (wordsV (sched b 48)).toArray) ∧ Below w.heap.size w w' := by
  have HB := Lib.hid hb
  clear hb
  go_enter Tryd.func72, Tryd.ntmps72
  go_wp2_with (first
    | ((with_reducible show wpList _ _ _ (⟨some 1, _, _, _, _, _⟩ :: _) _ _); refine box_row rfl 92 (.tmp 0) (bytesV b) rfl rfl ?_; intro w1 hr1 hbel1 hsz1; have HS1 := Lib.hid hsz1; clear hsz1)
    | ((with_reducible show wpList _ _ _ (⟨some 2, _, _, _, _, _⟩ :: _) _ _); refine alloc_row rfl 98 (wordsV (zeroW 64)) rfl zero_64w ?_; intro w2 hr2 hbel2 hsz2; have HS2 := Lib.hid hsz2; clear hsz2)
    | ((with_reducible show wpList _ _ _ (⟨some 3, _, _, _, _, _⟩ :: _) _ _); refine alloc_row rfl 98 (wordsV (zeroW 64)) rfl zero_64w ?_; intro w3 hr3 hbel3 hsz3; have HS3 := Lib.hid hsz3; clear hsz3))
  have hb2 := hbel1.trans (hbel2.mono (by have := HS1.out; omega))
  have hb3 := hb2.trans (hbel3.mono (by have := HS1.out; have := HS2.out; omega))
  have hr1' := (hr1.below hbel2).below hbel3
  have hr2' := hr2.below hbel3
  have hl1 := hr1'.lt
  have hl2 := hr2'.lt
  have hl3 := hr3.lt
  have hne12 : w.heap.size ≠ w1.heap.size := by have := HS1.out; omega
  have hne13 : w.heap.size ≠ w2.heap.size := by have := HS1.out; have := HS2.out; omega
  have hne23 : w1.heap.size ≠ w2.heap.size := by have := HS2.out; omega
  have hg1 : w.heap.size ≤ w1.heap.size := by have := HS1.out; omega
  have hg2 : w.heap.size ≤ w2.heap.size := by have := HS1.out; have := HS2.out; omega
  clear hbel1 hbel2 hbel3 hr1 hr2 hb2
  generalize w1.heap.size = g2 at *
  generalize w2.heap.size = g3 at *
  go_loopg [11] 16 (fun gh v W => ∃ (t : Nat) (m : List UInt32), gh + t = 16 ∧ v = .int .i64 t ∧ m.length = 64 ∧ Hid (m.take t = (first16 b).take t) ∧ RowAt W g3 98 (wordsV m) ∧ RowAt W w.heap.size 92 (bytesV b) ∧ RowAt W g2 98 (wordsV (zeroW 64)) ∧ Below w.heap.size w W)
  case atStart => exact ⟨0, zeroW 64, rfl, rfl, by simp [zeroW], rfl, hr3, hr1', hr2', hb3⟩
  case round =>
    obtain ⟨t, m, hg, rfl, hm, htk, hrm, hrb, hrz, hbel⟩ := hrel
    have HG := Lib.hid hg
    have HM := Lib.hid hm
    have ht16 : t ≤ 16 := by omega
    clear hg hm hr3 hr1' hr2' hb3
    by_cases ht : t < 16
    · have hbl := HB.out
      have hbc : ∀ i, i < 64 → wr.cell? ⟨w.heap.size, i, none⟩ = some (.int .u8 ((b.getD i 0).toNat : Int)) := fun i hi => hrb.cell i (by simp [bytesV, B, hbl, hi])
      have c0 := hbc (4 * t) (by omega)
      have c1 := hbc (4 * t + 1) (by omega)
      have c2 := hbc (4 * t + 2) (by omega)
      have c3 := hbc (4 * t + 3) (by omega)
      have hml : t < m.length := by have := HM.out; omega
      have cm : wr.cell? ⟨g3, t, none⟩ = some (.int .u32 ((m.getD t 0).toNat : Int)) := hrm.cell t (by simp [wordsV, U, hml])
      have fm := hrm.free t
      have HW := Lib.hid (first16_getD b t ht)
      clear hbc hbl hml
      generalize b.getD (4 * t) 0 = x0 at *
      generalize b.getD (4 * t + 1) 0 = x1 at *
      generalize b.getD (4 * t + 2) 0 = x2 at *
      generalize b.getD (4 * t + 3) 0 = x3 at *
      generalize m.getD t 0 = xm at *
      have hsl := fun W => run_slice_from Tryd.underlying92 size_byte w.heap.size 0 (4 * (t : Int)) (4 * t) (by omega) (by omega) W
      rw [Nat.zero_add] at hsl
      go_wp2
      go_region
      go_wp2
      go_roundg (gk - 1)
      case measure => have := HG.out; omega
      case rel =>
        have hm := HM.out
        refine ⟨t + 1, m.set t (word4 x0 x1 x2 x3), by have := HG.out; omega, by go_num, by simpa using hm, take_set_one htk.out (by omega) (by simp [first16]; omega) HW.out.symm, ?_, ?_, ?_, ?_⟩
        · rw [word_form]
          have := (hrm.set t (U (word4 x0 x1 x2 x3))).drew
          unfold wordsV at this ⊢
          rw [List.map_set]
          exact this
        · exact (hrb.other (by simpa using hne13) _).drew
        · exact (hrz.other (by simpa using hne23) _).drew
        · exact (hbel.setCell (by simpa using hg2) _).drew
    · obtain rfl : t = 16 := by omega
      have h16 : m.take 16 = sched b 0 := by
        have := htk.out
        rw [List.take_of_length_le (l := first16 b) (by simp [first16])] at this
        exact this
      have H16 := Lib.hid h16
      clear h16 htk
      go_wp2
      go_loopg [6] 48 (fun gh v W => ∃ (k : Nat) (m : List UInt32), gh + k = 48 ∧ v = .int .i64 (16 + (k : Int)) ∧ m.length = 64 ∧ Hid (m.take (16 + k) = sched b k) ∧ RowAt W g3 98 (wordsV m) ∧ RowAt W g2 98 (wordsV (zeroW 64)) ∧ Below w.heap.size w W)
      case atStart => exact ⟨0, m, rfl, rfl, HM.out, H16.out, hrm, hrz, hbel⟩
      case round =>
        obtain ⟨k, m, hg, rfl, hm, htk, hrm, hrz, hbel⟩ := hrel
        have HG := Lib.hid hg
        have HM := Lib.hid hm
        have hk48 : k ≤ 48 := by omega
        clear hg hm
        by_cases hk : k < 48
        · have hcm : ∀ i, i < 64 → wr.cell? ⟨g3, i, none⟩ = some (.int .u32 ((m.getD i 0).toNat : Int)) := fun i hi => hrm.cell i (by have := HM.out; simp [wordsV, U, this, hi])
          have c2 := hcm (14 + k) (by omega)
          have c15 := hcm (1 + k) (by omega)
          have c7 := hcm (9 + k) (by omega)
          have c16 := hcm k (by omega)
          have cm := hcm (16 + k) (by omega)
          have d2 : wr.cell? ⟨g3, 16 + k - 2, none⟩ = some (.int .u32 ((m.getD (14 + k) 0).toNat : Int)) := by rw [show 16 + k - 2 = 14 + k from by omega]; exact c2
          have d15 : wr.cell? ⟨g3, 16 + k - 15, none⟩ = some (.int .u32 ((m.getD (1 + k) 0).toNat : Int)) := by rw [show 16 + k - 15 = 1 + k from by omega]; exact c15
          have d7 : wr.cell? ⟨g3, 16 + k - 7, none⟩ = some (.int .u32 ((m.getD (9 + k) 0).toNat : Int)) := by rw [show 16 + k - 7 = 9 + k from by omega]; exact c7
          have d16 : wr.cell? ⟨g3, 16 + k - 16, none⟩ = some (.int .u32 ((m.getD k 0).toNat : Int)) := by rw [show 16 + k - 16 = k from by omega]; exact c16
          have fm := hrm.free (16 + k)
          have hnx : nextW (sched b k) = ((sig1 (m.getD (14 + k) 0) + m.getD (9 + k) 0) + sig0 (m.getD (1 + k) 0)) + m.getD k 0 := by
            have h := htk.out
            have hl := sched_length b k
            unfold nextW
            rw [hl, getD_of_take h (by omega), getD_of_take h (by omega), getD_of_take h (by omega), getD_of_take h (by omega)]
            rw [show 16 + k - 2 = 14 + k from by omega, show 16 + k - 7 = 9 + k from by omega, show 16 + k - 15 = 1 + k from by omega, show 16 + k - 16 = k from by omega]
          have HN := Lib.hid hnx
          clear hnx hcm
          generalize m.getD (14 + k) 0 = y2 at *
          generalize m.getD (1 + k) 0 = y15 at *
          generalize m.getD (9 + k) 0 = y7 at *
          generalize m.getD k 0 = y16 at *
          generalize m.getD (16 + k) 0 = y0 at *
          go_wp2
          go_region
          all_goals (
            go_wp2_with (go_at_call 73; go_must (refine (right_lit _ _ _ (by omega) (by omega)).mono ?_); rintro e w4 ⟨rfl, rfl⟩)
            go_region
            go_wp2
            go_roundg (gk - 1)
            case measure => have := HG.out; omega
            case rel =>
              have hm := HM.out
              have hl := sched_length b k
              refine ⟨k + 1, m.set (16 + k) (nextW (sched b k)), by have := HG.out; omega, by go_num, by simpa using hm, ?_, ?_, ?_, ?_⟩
              · have := take_set_app (m := m) (l := sched b k) (x := nextW (sched b k)) (by rw [hl]; exact htk.out) (by omega)
                rw [hl] at this
                exact this
              · rw [next_form, ← HN.out]
                have := ((hrm.set (16 + k) (U (nextW (sched b k)))).drew).drew
                unfold wordsV at this ⊢
                rw [List.map_set]
                exact this
              · exact ((hrz.other (by simpa using hne23) _).drew).drew
              · exact ((hbel.setCell (by simpa using hg2) _).drew).drew)
        · obtain rfl : k = 48 := by omega
          have hfin : m = sched b 48 := by
            have h := htk.out
            rw [List.take_of_length_le (by have := HM.out; omega)] at h
            exact h
          obtain ⟨cs, hcs⟩ : ∃ cs, cs = wordsV m := ⟨_, rfl⟩
          rw [← hcs] at hrm
          have hl48 : cs.length = 64 := by rw [hcs, hfin, wordsV_length, sched_length]
          have HL := Lib.hid hl48
          have hone := Lib.hid (show ∀ v ∈ cs, v.oneCell' = true by rw [hcs]; exact wordsV_one m)
          have HCS := Lib.hid (show cs = wordsV (sched b 48) by rw [hcs, hfin])
          clear hl48 htk hfin hcs ht ht16
          go_wp2_with (first
            | ((with_reducible show wpList _ _ _ (⟨some 85, _, _, _, _, _⟩ :: _) _ _); refine load_row rfl 98 (.tmp 3) rfl g3 98 cs _ rfl hrm Tryd.underlying98 rfl (by rw [HL.out]; exact info_64w) ?_)
            | ((with_reducible show wpList _ _ _ (⟨none, .store 98 _ _, _, _, _, _⟩ :: _) _ _); refine store_row rfl 98 (.tmp 2) (.tmp 85) rfl g2 98 (wordsV (zeroW 64)) cs rfl rfl hrz (by rw [HL.out, wordsV_length]; rfl) (by rw [HL.out]; exact info_64w) hone.out ?_; intro w5 hr5 hgr5 hsz5))
          exact bodyPost_ret (results_row rfl _ _ g2 98 cs _ rfl hr5 Tryd.underlying98 rfl (by rw [HL.out]; exact info_64w)) rfl ⟨by rw [HCS.out], hbel.grown hgr5 hbel.size (fun k hk => by simp at hk; omega)⟩
#print axioms spread_any
end Go.Proofs.YtcnhifkpflaibaaDoor

namespace Go.Proofs.YtcnhifkpflaibaaDoor
open Go.RowKit

/-- Block g begins with these cells. -/
def TabAt (w : World) (g : Nat) (cs : List Value) : Prop := cs ≠ [] ∧ w.rangeAt g 0 cs
theorem TabAt.cell {w : World} {g : Nat} {cs : List Value} (h : TabAt w g cs) (j : Nat) {v : Value} (hj : cs[j]? = some v) : w.cell? ⟨g, j, none⟩ = some v := by
  have := h.2 j v hj
  rwa [Nat.zero_add] at this
theorem TabAt.lt {w : World} {g : Nat} {cs : List Value} (h : TabAt w g cs) : g < w.heap.size := by
  match cs, h with
  | v :: r, h => exact World.block_lt_of_cell? w _ (h.cell 0 (v := v) rfl)
  | [], h => exact absurd rfl h.1
theorem TabAt.below {w w' : World} {g : Nat} {cs : List Value} (h : TabAt w g cs) (hb : Below w.heap.size w w') : TabAt w' g cs :=
  ⟨h.1, fun j v hj => (hb.cell h.lt).trans (h.2 j v hj)⟩
theorem TabAt.grown {w w' : World} {g : Nat} {cs : List Value} {row : Option Nat} (h : TabAt w g cs) (hg : w.grownBy w' row) (hr : some g ≠ row) : TabAt w' g cs :=
  ⟨h.1, fun j v hj => hg.cell (h.2 j v hj) hr⟩
theorem TabAt.drew {w : World} {g : Nat} {cs : List Value} (h : TabAt w g cs) : TabAt w.drew g cs := h

/-- The program's two tables are as its text lays them. -/
structure Tables (w : World) : Prop where
  first : TabAt w 0 (wordsV firstH)
  round : TabAt w 1 (wordsV roundK)

theorem Tables.below {w w' : World} (h : Tables w) (hb : Below w.heap.size w w') : Tables w' := ⟨h.first.below hb, h.round.below hb⟩

theorem cell_words (l : List UInt32) (t : Nat) (h : t < l.length) : (wordsV l)[t]? = some (.int .u32 ((l.getD t 0).toNat : Int)) := by simp [wordsV, U, h]

theorem info_8w : (Tryd.prog.info? 91).map (·.size) = some 8 := by kernel_rfl
theorem info_64b : (Tryd.prog.info? 92).map (·.size) = some 64 := by kernel_rfl
theorem zero_8w (w : World) : (zeroValue 91).run Tryd.prog w = .ok (.agg (wordsV (zeroW 8)).toArray) w := by kernel_rfl

theorem turn_finSh (x0 x1 x2 x3 x4 x5 x6 x7 a b' c d e f g h : UInt32) (b : List UInt8) (hr : runF (sched b 48) 64 (regOf [x0, x1, x2, x3, x4, x5, x6, x7]) = ⟨a, b', c, d, e, f, g, h⟩) :
    wordsV (turnF [x0, x1, x2, x3, x4, x5, x6, x7] b) = [.int .u32 (((x0.toNat : Int) + a.toNat) % 4294967296), .int .u32 (((x1.toNat : Int) + b'.toNat) % 4294967296), .int .u32 (((x2.toNat : Int) + c.toNat) % 4294967296), .int .u32 (((x3.toNat : Int) + d.toNat) % 4294967296),
      .int .u32 (((x4.toNat : Int) + e.toNat) % 4294967296), .int .u32 (((x5.toNat : Int) + f.toNat) % 4294967296), .int .u32 (((x6.toNat : Int) + g.toNat) % 4294967296), .int .u32 (((x7.toNat : Int) + h.toNat) % 4294967296)] := by
  unfold turnF
  rw [hr]
  simp only [u32_add_m]
  rfl

theorem spread_at (b : List UInt8) (hb : b.length = 64) (w : World) (W : List UInt32) (hW : W = sched b 48) :
    Calls Tryd.prog 72 #[.agg (bytesV b).toArray] w fun e w' => e = .returned (.agg (wordsV W).toArray) ∧ Below w.heap.size w w' := by
  rw [hW]
  exact spread_any b hb w

set_option maxRecDepth 100000 in
set_option maxHeartbeats 400000 in
theorem turn_any (x0 x1 x2 x3 x4 x5 x6 x7 : UInt32) (b : List UInt8) (hb : b.length = 64) (w : World) (ht : Tables w) :
    Calls Tryd.prog 51 #[.agg (wordsV [x0, x1, x2, x3, x4, x5, x6, x7]).toArray, .agg (bytesV b).toArray] w fun e w' => e = .returned (.agg (wordsV (turnF [x0, x1, x2, x3, x4, x5, x6, x7] b)).toArray) ∧ Below w.heap.size w w' := by
  have HB := Lib.hid hb
  obtain ⟨sb, hsb⟩ : ∃ sb, sb = sched b 48 := ⟨_, rfl⟩
  have HSB := Lib.hid hsb
  have h48 := Lib.hid (show (wordsV sb).length = 64 by rw [hsb, wordsV_length, sched_length])
  have hsb64 := Lib.hid (show sb.length = 64 by rw [hsb, sched_length])
  clear hsb
  clear hb
  go_enter Tryd.func51, Tryd.ntmps51
  go_wp2_with (first
    | ((with_reducible show wpList _ _ _ (⟨some 2, _, _, _, _, _⟩ :: _) _ _); refine box_row rfl 91 (.tmp 0) (wordsV [x0, x1, x2, x3, x4, x5, x6, x7]) rfl rfl ?_; intro w1 hr1 hbel1 hsz1; have HS1 := Lib.hid hsz1; clear hsz1)
    | ((with_reducible show wpList _ _ _ (⟨some 3, _, _, _, _, _⟩ :: _) _ _); refine box_row rfl 92 (.tmp 1) (bytesV b) rfl rfl ?_; intro w2 hr2 hbel2 hsz2; have HS2 := Lib.hid hsz2; clear hsz2)
    | ((with_reducible show wpList _ _ _ (⟨some 4, _, _, _, _, _⟩ :: _) _ _); refine alloc_row rfl 91 (wordsV (zeroW 8)) rfl zero_8w ?_; intro w3 hr3 hbel3 hsz3; have HS3 := Lib.hid hsz3; clear hsz3; have hr2' := hr2.below hbel3)
    | ((with_reducible show wpList _ _ _ (⟨some 22, _, _, _, _, _⟩ :: _) _ _); refine load_row rfl 92 (.tmp 3) rfl w1.heap.size 92 (bytesV b) _ rfl hr2' Tryd.underlying92 rfl (by rw [bytesV_length, HB.out]; exact info_64b) ?_)
    | (go_at_call 72; go_must (refine (spread_at b HB.out _ sb HSB.out).mono ?_); rintro e w4 ⟨rfl, hbel4⟩)
    | ((with_reducible show wpList _ _ _ (⟨some 5, _, _, _, _, _⟩ :: _) _ _); refine alloc_row rfl 98 (wordsV (zeroW 64)) rfl zero_64w ?_; intro w5 hr5 hbel5 hsz5; have HS5 := Lib.hid hsz5; clear hsz5)
    | ((with_reducible show wpList _ _ _ (⟨none, .store 98 _ _, _, _, _, _⟩ :: _) _ _); refine store_row rfl 98 (.tmp 5) (.tmp 23) rfl w4.heap.size 98 (wordsV (zeroW 64)) (wordsV sb) rfl rfl hr5 (by rw [h48.out, wordsV_length]; rfl) (by rw [h48.out]; exact info_64w) (wordsV_one _) ?_; intro w6 hr6 hgr6 hsz6; have HS6 := Lib.hid hsz6; clear hsz6))
  have hz1 := HS1.out
  have hz2 := HS2.out
  have hz3 := HS3.out
  have hz5 := HS5.out
  have hz6 := HS6.out
  have hl4 := hbel4.size
  have hbA : Below w.heap.size w w3 := (hbel1.trans (hbel2.mono (by omega))).trans (hbel3.mono (by omega))
  have hbB : Below w.heap.size w w6 := (((hbA.trans (hbel4.mono (by omega))).trans (hbel5.mono (by omega)))).grown hgr6 (by omega) (fun k hk => by simp at hk; omega)
  have e1 : RowAt w6 w.heap.size 91 (wordsV [x0, x1, x2, x3, x4, x5, x6, x7]) := ((((hr1.below hbel2).below hbel3).below hbel4).below hbel5).grown hgr6 (by simp; omega)
  have e4 : RowAt w6 w2.heap.size 91 (wordsV (zeroW 8)) := ((hr3.below hbel4).below hbel5).grown hgr6 (by simp; omega)
  have e0 : Tables w6 := ht.below hbB
  have n1 : w.heap.size ≠ w2.heap.size := by omega
  have n2 : w.heap.size ≠ w4.heap.size := by omega
  have n3 : w2.heap.size ≠ w4.heap.size := by omega
  have l1 : w.heap.size ≤ w2.heap.size := by omega
  have hg1 : 2 ≤ w.heap.size := by have := ht.round.lt; omega
  have c0 : w6.cell? ⟨w.heap.size, 0, none⟩ = some (.int .u32 (x0.toNat : Int)) := e1.cell 0 rfl
  have c1 : w6.cell? ⟨w.heap.size, 1, none⟩ = some (.int .u32 (x1.toNat : Int)) := e1.cell 1 rfl
  have c2 : w6.cell? ⟨w.heap.size, 2, none⟩ = some (.int .u32 (x2.toNat : Int)) := e1.cell 2 rfl
  have c3 : w6.cell? ⟨w.heap.size, 3, none⟩ = some (.int .u32 (x3.toNat : Int)) := e1.cell 3 rfl
  have c4 : w6.cell? ⟨w.heap.size, 4, none⟩ = some (.int .u32 (x4.toNat : Int)) := e1.cell 4 rfl
  have c5 : w6.cell? ⟨w.heap.size, 5, none⟩ = some (.int .u32 (x5.toNat : Int)) := e1.cell 5 rfl
  have c6 : w6.cell? ⟨w.heap.size, 6, none⟩ = some (.int .u32 (x6.toNat : Int)) := e1.cell 6 rfl
  have c7 : w6.cell? ⟨w.heap.size, 7, none⟩ = some (.int .u32 (x7.toNat : Int)) := e1.cell 7 rfl
  clear hz1 hz2 hz3 hz5 hz6 hbA hr1 hr2 hr2' hr3 hr5 hbel1 hbel2 hbel3 hbel4 hbel5 hgr6 hl4 HS1 HS2 HS3 HS5 HS6 ht
  generalize hgw : w.heap.size = gw at *
  generalize w2.heap.size = g4 at *
  generalize w4.heap.size = g5 at *
  have HGW := Lib.hid hgw
  clear hgw
  go_quiet (fail)
  go_wp2
  go_loopg [6, 7, 8, 9, 10, 11, 12, 13, 40] 64 (fun gh v6 v7 v8 v9 v10 v11 v12 v13 v40 W => ∃ (t : Nat) (a b' c d e f g h : UInt32), gh + t = 64 ∧ Hid (runF sb t (regOf [x0, x1, x2, x3, x4, x5, x6, x7]) = ⟨a, b', c, d, e, f, g, h⟩) ∧ v40 = .int .i64 t ∧
    v6 = .int .u32 (a.toNat : Int) ∧ v7 = .int .u32 (b'.toNat : Int) ∧ v8 = .int .u32 (c.toNat : Int) ∧ v9 = .int .u32 (d.toNat : Int) ∧ v10 = .int .u32 (e.toNat : Int) ∧ v11 = .int .u32 (f.toNat : Int) ∧ v12 = .int .u32 (g.toNat : Int) ∧ v13 = .int .u32 (h.toNat : Int) ∧
    RowAt W gw 91 (wordsV [x0, x1, x2, x3, x4, x5, x6, x7]) ∧ RowAt W g4 91 (wordsV (zeroW 8)) ∧ RowAt W g5 98 (wordsV sb) ∧ Tables W ∧ Below gw w W)
  case atStart => exact ⟨0, x0, x1, x2, x3, x4, x5, x6, x7, rfl, rfl, rfl, rfl, rfl, rfl, rfl, rfl, rfl, rfl, rfl, e1, e4, hr6, ⟨e0.first, e0.round⟩, ⟨hbB.os, hbB.tape, hbB.output, hbB.size, hbB.block⟩⟩
  case round =>
    obtain ⟨t, a, b', c, d, e, f, g, h, hg, hr, rfl, rfl, rfl, rfl, rfl, rfl, rfl, rfl, rfl, f1, f4, f5, f0, hbel⟩ := hrel
    have HG := Lib.hid hg
    have ht64 : t ≤ 64 := by omega
    clear hg e1 e4 hr6 e0 hbB c0 c1 c2 c3 c4 c5 c6 c7
    by_cases htl : t < 64
    · obtain ⟨kt, wt, ck, cw, hn⟩ : ∃ kt wt : UInt32, wr.cell? ⟨1, t, none⟩ = some (.int .u32 (kt.toNat : Int)) ∧ wr.cell? ⟨g5, t, none⟩ = some (.int .u32 (wt.toNat : Int)) ∧
          runF sb (t + 1) (regOf [x0, x1, x2, x3, x4, x5, x6, x7]) = stepF kt wt ⟨a, b', c, d, e, f, g, h⟩ :=
        ⟨_, _, f0.round.cell t (cell_words _ t htl), f5.cell t (cell_words _ t (by rw [hsb64.out]; exact htl)), by rw [runF, hr.out]⟩
      have HN := Lib.hid hn
      have hsg : IntKind.u32.signed = false := rfl
      clear hn
      go_wp2_with (go_at_call 73; go_must (refine (right_lit _ _ _ (by omega) (by omega)).mono ?_); rintro e w7 ⟨rfl, rfl⟩)
      go_quiet (fail)
      go_wp2_with (go_at_call 73; go_must (refine (right_lit _ _ _ (by omega) (by omega)).mono ?_); rintro e w7 ⟨rfl, rfl⟩)
      go_roundg (gk - 1)
      case measure => have := HG.out; omega
      case rel =>
        refine ⟨t + 1, _, a, b', c, _, e, f, g, by have := HG.out; omega, HN.out, by go_num, ?_, rfl, rfl, rfl, ?_, rfl, rfl, rfl, f1, f4, f5, ⟨f0.first, f0.round⟩, ⟨hbel.os, hbel.tape, hbel.output, hbel.size, hbel.block⟩⟩
        · exact congrArg (Value.int .u32) (stepA_form a b' c d e f g h kt wt)
        · exact congrArg (Value.int .u32) (stepE_form a b' c d e f g h kt wt)
    · obtain rfl : t = 64 := by omega
      have HF := Lib.hid (turn_finSh x0 x1 x2 x3 x4 x5 x6 x7 a b' c d e f g h b (by rw [← HSB.out]; exact hr.out))
      have k0 : wr.cell? ⟨gw, 0, none⟩ = some (.int .u32 (x0.toNat : Int)) := f1.cell 0 rfl
      have z0 := f1.free 0
      have k1 : wr.cell? ⟨gw, 1, none⟩ = some (.int .u32 (x1.toNat : Int)) := f1.cell 1 rfl
      have z1 := f1.free 1
      have k2 : wr.cell? ⟨gw, 2, none⟩ = some (.int .u32 (x2.toNat : Int)) := f1.cell 2 rfl
      have z2 := f1.free 2
      have k3 : wr.cell? ⟨gw, 3, none⟩ = some (.int .u32 (x3.toNat : Int)) := f1.cell 3 rfl
      have z3 := f1.free 3
      have k4 : wr.cell? ⟨gw, 4, none⟩ = some (.int .u32 (x4.toNat : Int)) := f1.cell 4 rfl
      have z4 := f1.free 4
      have k5 : wr.cell? ⟨gw, 5, none⟩ = some (.int .u32 (x5.toNat : Int)) := f1.cell 5 rfl
      have z5 := f1.free 5
      have k6 : wr.cell? ⟨gw, 6, none⟩ = some (.int .u32 (x6.toNat : Int)) := f1.cell 6 rfl
      have z6 := f1.free 6
      have k7 : wr.cell? ⟨gw, 7, none⟩ = some (.int .u32 (x7.toNat : Int)) := f1.cell 7 rfl
      have z7 := f1.free 7
      clear f0 f5 hr
      have i0 : ∀ w, (Instr.index 91 (.agg #[.int .u32 (a.toNat : Int), .int .u32 (b'.toNat : Int), .int .u32 (c.toNat : Int), .int .u32 (d.toNat : Int), .int .u32 (e.toNat : Int), .int .u32 (f.toNat : Int), .int .u32 (g.toNat : Int), .int .u32 (h.toNat : Int)]) (.int .i64 0)).run Tryd.prog w = .ok (.int .u32 (a.toNat : Int)) w := fun _ => by kernel_rfl
      have i1 : ∀ w, (Instr.index 91 (.agg #[.int .u32 (a.toNat : Int), .int .u32 (b'.toNat : Int), .int .u32 (c.toNat : Int), .int .u32 (d.toNat : Int), .int .u32 (e.toNat : Int), .int .u32 (f.toNat : Int), .int .u32 (g.toNat : Int), .int .u32 (h.toNat : Int)]) (.int .i64 1)).run Tryd.prog w = .ok (.int .u32 (b'.toNat : Int)) w := fun _ => by kernel_rfl
      have i2 : ∀ w, (Instr.index 91 (.agg #[.int .u32 (a.toNat : Int), .int .u32 (b'.toNat : Int), .int .u32 (c.toNat : Int), .int .u32 (d.toNat : Int), .int .u32 (e.toNat : Int), .int .u32 (f.toNat : Int), .int .u32 (g.toNat : Int), .int .u32 (h.toNat : Int)]) (.int .i64 2)).run Tryd.prog w = .ok (.int .u32 (c.toNat : Int)) w := fun _ => by kernel_rfl
      have i3 : ∀ w, (Instr.index 91 (.agg #[.int .u32 (a.toNat : Int), .int .u32 (b'.toNat : Int), .int .u32 (c.toNat : Int), .int .u32 (d.toNat : Int), .int .u32 (e.toNat : Int), .int .u32 (f.toNat : Int), .int .u32 (g.toNat : Int), .int .u32 (h.toNat : Int)]) (.int .i64 3)).run Tryd.prog w = .ok (.int .u32 (d.toNat : Int)) w := fun _ => by kernel_rfl
      have i4 : ∀ w, (Instr.index 91 (.agg #[.int .u32 (a.toNat : Int), .int .u32 (b'.toNat : Int), .int .u32 (c.toNat : Int), .int .u32 (d.toNat : Int), .int .u32 (e.toNat : Int), .int .u32 (f.toNat : Int), .int .u32 (g.toNat : Int), .int .u32 (h.toNat : Int)]) (.int .i64 4)).run Tryd.prog w = .ok (.int .u32 (e.toNat : Int)) w := fun _ => by kernel_rfl
      have i5 : ∀ w, (Instr.index 91 (.agg #[.int .u32 (a.toNat : Int), .int .u32 (b'.toNat : Int), .int .u32 (c.toNat : Int), .int .u32 (d.toNat : Int), .int .u32 (e.toNat : Int), .int .u32 (f.toNat : Int), .int .u32 (g.toNat : Int), .int .u32 (h.toNat : Int)]) (.int .i64 5)).run Tryd.prog w = .ok (.int .u32 (f.toNat : Int)) w := fun _ => by kernel_rfl
      have i6 : ∀ w, (Instr.index 91 (.agg #[.int .u32 (a.toNat : Int), .int .u32 (b'.toNat : Int), .int .u32 (c.toNat : Int), .int .u32 (d.toNat : Int), .int .u32 (e.toNat : Int), .int .u32 (f.toNat : Int), .int .u32 (g.toNat : Int), .int .u32 (h.toNat : Int)]) (.int .i64 6)).run Tryd.prog w = .ok (.int .u32 (g.toNat : Int)) w := fun _ => by kernel_rfl
      have i7 : ∀ w, (Instr.index 91 (.agg #[.int .u32 (a.toNat : Int), .int .u32 (b'.toNat : Int), .int .u32 (c.toNat : Int), .int .u32 (d.toNat : Int), .int .u32 (e.toNat : Int), .int .u32 (f.toNat : Int), .int .u32 (g.toNat : Int), .int .u32 (h.toNat : Int)]) (.int .i64 7)).run Tryd.prog w = .ok (.int .u32 (h.toNat : Int)) w := fun _ => by kernel_rfl
      go_wp2
      refine wp_loop_rounds 9 ?_
      iterate 9
        rw [rounds_succ]
        go_wp2_with (first
          | ((with_reducible show wpList _ _ _ (⟨some 126, _, _, _, _, _⟩ :: _) _ _); go_must (refine load_row rfl 91 (.tmp 2) rfl gw 91 _ _ rfl ((((((((f1.set 0 _).set 1 _).set 2 _).set 3 _).set 4 _).set 5 _).set 6 _).set 7 _) Tryd.underlying91 rfl info_8w ?_))
          | ((with_reducible show wpList _ _ _ (⟨none, .store 91 _ _, _, _, _, _⟩ :: _) _ _); go_must (refine store_row rfl 91 (.tmp 4) (.tmp 126) rfl g4 91 (wordsV (zeroW 8)) (wordsV (turnF [x0, x1, x2, x3, x4, x5, x6, x7] b)) rfl (by rw [HF.out]; rfl) ((((((((f4.other (by simpa using n1.symm) _).other (by simpa using n1.symm) _).other (by simpa using n1.symm) _).other (by simpa using n1.symm) _).other (by simpa using n1.symm) _).other (by simpa using n1.symm) _).other (by simpa using n1.symm) _).other (by simpa using n1.symm) _) (by rw [HF.out]; rfl) (by rw [HF.out]; exact info_8w) (wordsV_one _) ?_); intro w9 hr9 hgr9 hsz9))
      have hgwl := f1.lt
      have hbl := (Below.setCell (Below.setCell (Below.setCell (Below.setCell (Below.setCell (Below.setCell (Below.setCell (Below.setCell hbel (Nat.le_refl _) _) (Nat.le_refl _) _) (Nat.le_refl _) _) (Nat.le_refl _) _) (Nat.le_refl _) _) (Nat.le_refl _) _) (Nat.le_refl _) _) (Nat.le_refl _) _).grown hgr9 (by simp; omega) (fun k hk => by simp at hk; omega)
      exact bodyPost_ret (results_row rfl _ _ g4 91 _ _ rfl hr9 Tryd.underlying91 rfl (by rw [HF.out]; exact info_8w)) rfl ⟨rfl, by rw [HGW.out]; exact hbl⟩
#print axioms turn_any
end Go.Proofs.YtcnhifkpflaibaaDoor

namespace Go.Proofs.YtcnhifkpflaibaaDoor
open Go.RowKit

/-- A Hash's cells. -/
def hashV (ws : List UInt32) (rs : List UInt8) (n : Nat) : List Value := wordsV ws ++ (bytesV rs ++ [.int .i64 (n : Int)])

/-- The state behind the first so many blocks of some bytes. -/
def stF (l : List UInt8) : Nat → List UInt32
  | 0 => firstH
  | k + 1 => turnF (stF l k) ((l.drop (64 * k)).take 64)

/-- Block g is a Hash to which these bytes were written. -/
def HashOf (w : World) (g : Nat) (l : List UInt8) : Prop :=
  ∃ rs : List UInt8, rs.length = 64 ∧ rs.take (l.length % 64) = l.drop (l.length / 64 * 64) ∧ RowAt w g 94 (hashV (stF l (l.length / 64)) rs l.length)

theorem turnF_length (l : List UInt32) (b : List UInt8) : (turnF l b).length = 8 := by unfold turnF; rfl
theorem stF_length (l : List UInt8) (k : Nat) : (stF l k).length = 8 := by
  cases k with
  | zero => rfl
  | succ k => exact turnF_length _ _

theorem HashOf.below {w w' : World} {g : Nat} {l : List UInt8} (h : HashOf w g l) (hb : Below w.heap.size w w') : HashOf w' g l := by
  obtain ⟨rs, h1, h2, h3⟩ := h
  exact ⟨rs, h1, h2, h3.below hb⟩

theorem HashOf.grown {w w' : World} {g : Nat} {l : List UInt8} {row : Option Nat} (h : HashOf w g l) (hg : w.grownBy w' row) (hr : some g ≠ row) : HashOf w' g l := by
  obtain ⟨rs, h1, h2, h3⟩ := h
  exact ⟨rs, h1, h2, h3.grown hg hr⟩

theorem build_hash (w : World) : (Instr.build 94 #[(0, .agg (wordsV firstH).toArray)]).run Tryd.prog w = .ok (.agg (hashV firstH (List.replicate 64 0) 0).toArray) w := by kernel_rfl

theorem hash_new (w : World) (g : Nat) (h : RowAt w g 94 (hashV firstH (List.replicate 64 0) 0)) : HashOf w g [] := ⟨List.replicate 64 0, by simp, by simp, h⟩

/-- A new block that is a Hash of nothing. -/
def NewHash (w : World) (e : Ending) (w' : World) : Prop := e = .returned (.pointer (some ⟨w.heap.size, 0, none⟩)) ∧ HashOf w' w.heap.size [] ∧ Below w.heap.size w w'

set_option maxRecDepth 100000 in
set_option maxHeartbeats 400000 in
theorem new_anySh (w : World) (ht : Tables w) : Calls Tryd.prog 27 #[] w (NewHash w) := by
  have hf := ht.first
  clear ht
  go_enter Tryd.func27, Tryd.ntmps27
  go_wp2_with (first
    | ((with_reducible show wpList _ _ _ (⟨some 1, _, _, _, _, _⟩ :: _) _ _); go_must (refine load_part rfl 91 (.global 0) rfl 0 0 (wordsV firstH) _ rfl hf.2 Tryd.underlying91 rfl info_8w ?_))
    | ((with_reducible show wpList _ _ _ (⟨some 2, _, _, _, _, _⟩ :: _) _ _); go_must (refine wpList_ok rfl (v := .agg (hashV firstH (List.replicate 64 0) 0).toArray) (w' := w) (by unfold execOp; simp only [List.map_toArray, List.map_cons, List.map_nil, Sem.run_bind, Sem.run_pure]; exact congrArg (fun r => Result.andThen r _) (build_hash w)) ?_))
    | ((with_reducible show wpList _ _ _ (⟨some 3, _, _, _, _, _⟩ :: _) _ _); go_must (refine box_row rfl 94 (.tmp 2) (hashV firstH (List.replicate 64 0) 0) rfl rfl ?_); intro w1 hr1 hbel1 hsz1; have HS1 := Lib.hid hsz1; clear hsz1))
  go_ret
  exact ⟨rfl, hash_new _ _ hr1, hbel1⟩

theorem hash_len {w : World} {g : Nat} {l : List UInt8} (h : HashOf w g l) : w.cell? ⟨g, 72, none⟩ = some (.int .i64 (l.length : Int)) := by
  obtain ⟨rs, h1, _, h3⟩ := h
  refine h3.cell 72 ?_
  unfold hashV
  rw [List.getElem?_append_right (by rw [wordsV_length, stF_length]; omega), wordsV_length, stF_length, List.getElem?_append_right (by rw [bytesV_length, h1]; omega), bytesV_length, h1]
  rfl


#print axioms new_anySh
end Go.Proofs.YtcnhifkpflaibaaDoor

namespace Go.Proofs.YtcnhifkpflaibaaDoor
open Go.RowKit

theorem stF_app (l m : List UInt8) (k : Nat) (h : 64 * k ≤ l.length) : stF (l ++ m) k = stF l k := by
  induction k with
  | zero => rfl
  | succ k ih =>
    rw [stF, stF, ih (by omega)]
    congr 1
    rw [List.drop_append_of_le_length (by omega), List.take_append_of_le_length (by rw [List.length_drop]; omega)]

theorem splice_take {α : Type} (rs x : List α) (held : Nat) (h : held + x.length ≤ rs.length) : (splice rs held x).take (held + x.length) = rs.take held ++ x := by
  unfold splice
  rw [← List.append_assoc, List.take_append_of_le_length (by simp; omega)]
  exact List.take_of_length_le (by simp; omega)

theorem splice_full {α : Type} (rs x : List α) (held : Nat) (h : held + x.length = rs.length) : splice rs held x = rs.take held ++ x := by
  unfold splice
  rw [h, List.drop_length, List.append_nil]

theorem rest_more (D x rs : List UInt8) (hrs : rs.length = 64) (ht : rs.take (D.length % 64) = D.drop (D.length / 64 * 64)) (h : D.length % 64 + x.length < 64) :
    (splice rs (D.length % 64) x).length = 64 ∧ (splice rs (D.length % 64) x).take ((D ++ x).length % 64) = (D ++ x).drop ((D ++ x).length / 64 * 64) ∧ stF (D ++ x) ((D ++ x).length / 64) = stF D (D.length / 64) := by
  have hl : (D ++ x).length = D.length + x.length := List.length_append
  have hm : (D ++ x).length % 64 = D.length % 64 + x.length := by rw [hl]; omega
  have hd : (D ++ x).length / 64 = D.length / 64 := by rw [hl]; omega
  refine ⟨by rw [length_splice _ _ _ (by omega)]; exact hrs, ?_, ?_⟩
  · rw [hm, hd, splice_take _ _ _ (by omega), ht, List.drop_append_of_le_length (by omega)]
  · rw [hd, stF_app _ _ _ (by omega)]

theorem rest_full (D x rs : List UInt8) (hrs : rs.length = 64) (ht : rs.take (D.length % 64) = D.drop (D.length / 64 * 64)) (h : D.length % 64 + x.length = 64) :
    (splice rs (D.length % 64) x).length = 64 ∧ (splice rs (D.length % 64) x).take ((D ++ x).length % 64) = (D ++ x).drop ((D ++ x).length / 64 * 64) ∧ stF (D ++ x) ((D ++ x).length / 64) = turnF (stF D (D.length / 64)) (splice rs (D.length % 64) x) := by
  have hl : (D ++ x).length = D.length + x.length := List.length_append
  have hm : (D ++ x).length % 64 = 0 := by rw [hl]; omega
  have hd : (D ++ x).length / 64 = D.length / 64 + 1 := by rw [hl]; omega
  have hs : splice rs (D.length % 64) x = ((D ++ x).drop (64 * (D.length / 64))).take 64 := by
    rw [splice_full _ _ _ (by omega), ht, Nat.mul_comm 64, List.drop_append_of_le_length (by omega)]
    exact (List.take_of_length_le (by simp; omega)).symm
  refine ⟨by rw [length_splice _ _ _ (by omega)]; exact hrs, ?_, ?_⟩
  · rw [hm, List.take_zero]
    exact (List.drop_of_length_le (by omega)).symm
  · rw [hd, stF, stF_app _ _ _ (by omega), ← hs]

theorem splice_hash (ws : List UInt32) (rs x : List UInt8) (n held : Nat) (hw : ws.length = 8) (hr : rs.length = 64) (h : held + x.length ≤ 64) :
    splice (hashV ws rs n) (8 + held) (bytesV x) = hashV ws (splice rs held x) n := by
  have h1 : (wordsV ws).length = 8 := by rw [wordsV_length, hw]
  have h2 : (bytesV rs).length = 64 := by rw [bytesV_length, hr]
  have hb : (bytesV x).length = x.length := bytesV_length x
  unfold splice hashV
  rw [hb, List.take_append, h1, List.take_of_length_le (by omega), show 8 + held - 8 = held from by omega, List.take_append_of_le_length (by omega)]
  rw [show 8 + held + x.length = 8 + (held + x.length) from by omega, ← h1, List.drop_length_add_append, List.drop_append_of_le_length (by omega)]
  simp [bytesV, List.map_take, List.map_drop]

theorem set_hash (ws : List UInt32) (rs : List UInt8) (n m : Nat) (hw : ws.length = 8) (hr : rs.length = 64) : (hashV ws rs n).set 72 (.int .i64 (m : Int)) = hashV ws rs m := by
  have h1 : (wordsV ws).length = 8 := by rw [wordsV_length, hw]
  have h2 : (bytesV rs).length = 64 := by rw [bytesV_length, hr]
  unfold hashV
  rw [List.set_append_right _ _ (by omega), h1, List.set_append_right _ _ (by omega), h2]
  rfl

theorem splice_words (ws ws' : List UInt32) (rs : List UInt8) (n : Nat) (hw : ws.length = 8) (hw' : ws'.length = 8) : splice (hashV ws rs n) 0 (wordsV ws') = hashV ws' rs n := by
  have h1 : (wordsV ws).length = 8 := by rw [wordsV_length, hw]
  have h2 : (wordsV ws').length = 8 := by rw [wordsV_length, hw']
  unfold splice hashV
  rw [List.take_zero, List.nil_append, Nat.zero_add, h2, ← h1, List.drop_left]

theorem hash_length (ws : List UInt32) (rs : List UInt8) (n : Nat) (hw : ws.length = 8) (hr : rs.length = 64) : (hashV ws rs n).length = 73 := by
  unfold hashV; rw [List.length_append, List.length_append, wordsV_length, bytesV_length, hw, hr]; rfl
theorem hash_more {w : World} {g : Nat} {D x rs rs2 : List UInt8} {ws : List UInt32} {L held k : Nat} (hL : L = D.length) (hh : held = L % 64) (hk : x.length = k) (hlt : held + k < 64) (hrs : rs.length = 64)
    (ht : rs.take held = D.drop (L / 64 * 64)) (h2 : rs2 = splice rs held x) (hws : ws = stF D (D.length / 64)) (hr : RowAt w g 94 (hashV ws rs2 L)) :
    HashOf (w.setCell ⟨g, 72, none⟩ (.int .i64 ((L : Int) + (k : Int)))) g (D ++ x) := by
  subst hL hh hk h2 hws
  obtain ⟨h3, h4, h5⟩ := rest_more D x rs hrs ht hlt
  refine ⟨_, h3, h4, ?_⟩
  have := hr.set 72 (.int .i64 (((D.length + x.length : Nat)) : Int))
  rw [set_hash _ _ _ _ (stF_length _ _) h3] at this
  rw [h5, List.length_append]
  rw [show (D.length : Int) + (x.length : Int) = ((D.length + x.length : Nat) : Int) from by omega]
  exact this

theorem hash_full {w : World} {g : Nat} {D x rs rs2 : List UInt8} {ws : List UInt32} {L held k : Nat} (hL : L = D.length) (hh : held = L % 64) (hk : x.length = k) (hlt : held + k = 64) (hrs : rs.length = 64)
    (ht : rs.take held = D.drop (L / 64 * 64)) (h2 : rs2 = splice rs held x) (hws : ws = stF D (D.length / 64)) (hr : RowAt w g 94 (hashV (turnF ws rs2) rs2 (L + k))) :
    HashOf w g (D ++ x) := by
  subst hL hh hk h2 hws
  obtain ⟨h3, h4, h5⟩ := rest_full D x rs hrs ht hlt
  refine ⟨_, h3, h4, ?_⟩
  rw [h5, List.length_append]
  exact hr
#print axioms rest_full
end Go.Proofs.YtcnhifkpflaibaaDoor

namespace Go.Proofs.YtcnhifkpflaibaaDoor
open Go.RowKit

/-- How many zeros. -/
def zerosF (n : Nat) : Nat := if n % 64 ≤ 55 then 55 - n % 64 else 119 - n % 64
/-- The first bytes of the number of bits. -/
def lenB (n i : Nat) : List UInt8 := (List.range i).map fun j => UInt8.ofNat (n * 8 / 2 ^ (8 * (7 - j)) % 256)
/-- What follows. -/
def endF (n : Nat) : List UInt8 := 128 :: (List.replicate (zerosF n) 0 ++ lenB n 8)

theorem lenB_next (n i : Nat) : lenB n (i + 1) = lenB n i ++ [UInt8.ofNat (n * 8 / 2 ^ (8 * (7 - i)) % 256)] := by
  unfold lenB; rw [List.range_succ, List.map_append]; rfl

theorem make_bytesSh {w : World} {ops : Array Oper} {rest : List Oper} {o : Oper} {a : Act} {Q : Exit → Act → World → Prop} (hgd : o.guard = none) (x y : Operand) (ho : o.op = .makeSlice 23 x y)
    (L C : Nat) (zl zc : Int) (hx : a.eval x = .int .i64 zl) (hy : a.eval y = .int .i64 zc) (hl : zl = L) (hc : zc = C) (hLC : L ≤ C) (hC : C ≤ 1000000)
    (h : ∀ w1, Own w1 w.heap.size (.slice (some ⟨w.heap.size, 0, none⟩) L C) (List.replicate L 0) → Below w.heap.size w w1 → w1.heap.size = w.heap.size + 1 → wpList Tryd.prog ops Q rest (a.put o.dst (.slice (some ⟨w.heap.size, 0, none⟩) L C)) w1) :
    wpList Tryd.prog ops Q (o :: rest) a w := by
  obtain ⟨i0, hi, hz0, hz1, hz2⟩ := info_parts Tryd.info5
  subst hl hc
  have hr := run_make (P := Tryd.prog) w 23 5 i0 (.int .u8 0) Tryd.underlying23 hi hz0 .i64 .i64 (L : Int) (C : Int) (by omega) (by omega) (by rw [hz2]; omega) (by omega)
  simp only [Int.toNat_natCast] at hr
  refine wpList_ok (w' := w.alloc (.cells (madeCells (Value.int .u8 0).cells (C * i0.size)) 5)) hgd (by unfold execOp; simp only [ho, hx, hy, Sem.run_bind, hr, Result.andThen_ok, Sem.run_pure]) (h _ ⟨by simp, .inr ⟨w.heap.size, C, _, by simp, Nat.le_refl _, heap_alloc_new w _, by simpa using hLC, by unfold maxLen; omega, ?_, ?_⟩⟩ ((Below.refl _ _).alloc (Nat.le_refl _) _) (by simp))
  · rw [size_madeCells, hz1, Nat.mul_one]
  · rw [hz1]
    have h1 : (Value.int IntKind.u8 0).cells = #[.int .u8 0] := rfl
    rw [h1, Nat.mul_one, toList_madeCells_one]
    simp [B, Nat.min_eq_left hLC]

theorem own_set {w : World} {base g n c : Nat} {l : List UInt8} (h : Own w base (.slice (some ⟨g, 0, none⟩) n c) l) (j : Nat) (x : UInt8) :
    Own (w.setCell ⟨g, j, none⟩ (.int .u8 (x.toNat : Int))) base (.slice (some ⟨g, 0, none⟩) n c) (l.set j x) := by
  have hn := h.len
  subst hn
  have := (World.ownsRow.stored h j (B x)).1
  unfold Own
  rw [List.length_set, List.map_set]
  exact this

theorem own_cell {w : World} {base g n c : Nat} {l : List UInt8} (h : Own w base (.slice (some ⟨g, 0, none⟩) n c) l) (j : Nat) (hj : j < l.length) : w.cell? ⟨g, j, none⟩ = some (.int .u8 ((l.getD j 0).toNat : Int)) ∧ w.frozen? ⟨g, j, none⟩ = false ∧ base ≤ g := by
  have hn := h.len
  subst hn
  refine ⟨?_, World.ownsRow.frozenAt h j, (World.ownsRow.lt h g rfl).1⟩
  rw [World.ownsRow.cellAt h j (by omega)]
  simp [hj, B]

theorem byte_form (n i : Nat) : (n : Int) * 8 / 2 ^ (8 * (7 - i)) % 256 = ((UInt8.ofNat (n * 8 / 2 ^ (8 * (7 - i)) % 256)).toNat : Int) := by
  have h : (UInt8.ofNat (n * 8 / 2 ^ (8 * (7 - i)) % 256)).toNat = n * 8 / 2 ^ (8 * (7 - i)) % 256 := by simp
  rw [h]; simp

set_option maxRecDepth 100000 in
set_option maxHeartbeats 400000 in
theorem ending_any (n : Nat) (w : World) (hn : n ≤ 1000000000000000) :
    Calls Tryd.prog 52 #[.int .i64 n] w (Made w (endF n)) := by
  have hz : zerosF n < 64 := by unfold zerosF; split <;> omega
  have hcase : ((n : Int) % 64 ≤ 55 ∧ zerosF n = 55 - n % 64) ∨ (¬ (n : Int) % 64 ≤ 55 ∧ zerosF n = 119 - n % 64) := by
    unfold zerosF
    by_cases h : n % 64 ≤ 55
    · exact .inl ⟨by omega, by rw [if_pos h]⟩
    · exact .inr ⟨by omega, by rw [if_neg h]⟩
  obtain ⟨z, hzz⟩ : ∃ z, z = zerosF n := ⟨_, rfl⟩
  rw [← hzz] at hz hcase
  have HZ := Lib.hid hzz
  clear hzz
  rcases hcase with ⟨hc, hzv⟩ | ⟨hc, hzv⟩
  all_goals
    have HV := Lib.hid hzv
    have hzi := Lib.hid (show (1 : Int) + (z : Int) = ((1 + z : Nat) : Int) by omega)
    clear hzv
    try have t1 : decide (55 - (n : Int) % 64 < 0) = false := by simp; omega
    go_enter Tryd.func52, Tryd.ntmps52
    go_wp2_with ((with_reducible show wpList _ _ _ (⟨some 19, _, _, _, _, _⟩ :: _) _ _); go_must (refine make_bytesSh rfl (.tmp 15) (.tmp 18) rfl (1 + z) (1 + z + 8) _ _ rfl rfl (by have := HV.out; omega) (by have := HV.out; omega) (by omega) (by omega) ?_); intro w1 hown1 hbel1 hsz1; have HS1 := Lib.hid hsz1; clear hsz1; obtain ⟨hc0, hf0, _⟩ := own_cell hown1 0 (by simp; omega))
    have hown2 := own_set hown1 0 128
    have hl2 : (List.replicate (1 + z) (0 : UInt8)).set 0 128 = 128 :: (List.replicate z 0 ++ lenB n 0) := by
      rw [Nat.add_comm, List.replicate_succ]; simp [lenB]
    rw [hl2] at hown2
    have hbel2 : Below w.heap.size w (w1.setCell ⟨w.heap.size, 0, none⟩ (.int .u8 128)) := hbel1.setCell (Nat.le_refl _) _
    go_loopg [4, 25] 8 (fun gh v4 v25 W => ∃ i : Nat, gh + i = 8 ∧ v25 = .int .i64 i ∧ Own W w.heap.size v4 (128 :: (List.replicate z 0 ++ lenB n i)) ∧ Below w.heap.size w W)
    case atStart => exact ⟨0, rfl, rfl, hown2, hbel2⟩
    case round =>
      obtain ⟨i, hg, rfl, hown, hbel⟩ := hrel
      have HG := Lib.hid hg
      have hi8 : i ≤ 8 := by omega
      clear hg hown1 hbel1 hown2 hbel2 hl2 hc0 hf0
      by_cases hi : i < 8
      · have hB := Lib.hid (byte_form n i)
        have hsz := hbel.size
        go_wp2_with (at_builtin; go_must (refine app_bytes rfl (.tmp 28) (.tmp 35) rfl w.heap.size _ _ rfl (hown.alloc _) (some ⟨wr.heap.size, 0, none⟩) 1 1 [UInt8.ofNat (n * 8 / 2 ^ (8 * (7 - i)) % 256)] rfl (by rw [hB.out]; exact bytes_one _ _) (by simp [lenB]; omega) (by simp; omega) ?_); intro v' w3 hown3 hgr3)
        go_roundg (gk - 1)
        case measure => have := HG.out; omega
        case rel =>
          refine ⟨i + 1, by have := HG.out; omega, by go_num, ?_, (hbel.alloc hsz _).grown hgr3 (by simp; omega) hown.grown⟩
          rw [lenB_next]
          simpa using hown3
      · obtain rfl : i = 8 := by omega
        go_wp2
        go_ret
        exact Made.of (by unfold endF; rw [← HZ.out]; exact hown) hbel
#print axioms ending_any
end Go.Proofs.YtcnhifkpflaibaaDoor

namespace Go.Proofs.YtcnhifkpflaibaaDoor
open Go.RowKit


/-- 'copy(dst, src)' into cells of a known block. -/
theorem copy_row {w : World} {ops : Array Oper} {rest : List Oper} {o : Oper} {a : Act} {Q : Exit → Act → World → Prop} (hgd : o.guard = none) (d s : Operand)
    (ho : o.op = .call { callee := .builtin .copy, args := #[d, s], argTypes := #[23, 23] })
    (g off : Nat) (t : TypeId) (cur : List Value) (hg : RowAt w g t cur) (dLen dCap : Nat) (hd : a.eval d = .slice (some ⟨g, off, none⟩) dLen dCap)
    (b so n c : Nat) (l : List UInt8) (hs : a.eval s = .slice (some ⟨b, so, none⟩) n c) (hb : Bytes w (some ⟨b, so, none⟩) n c l) (m : Nat) (hm : m = Nat.min n dLen) (hfit : off + m ≤ cur.length)
    (h : ∀ w1, RowAt w1 g t (splice cur off (bytesV (l.take m))) → w.grownBy w1 (some g) → w1.heap.size = w.heap.size → wpList Tryd.prog ops Q rest (a.put o.dst (goInt m)) w1) :
    wpList Tryd.prog ops Q (o :: rest) a w := by
  have hmn : m ≤ n := by rw [hm]; exact Nat.min_le_left _ _
  have hlen : (bytesV (l.take m)).length = m := by rw [bytesV_length, List.length_take, hb.1]; omega
  have hr := run_copy_row (P := Tryd.prog) w 23 23 o.type 5 g off dLen dCap ⟨b, so, none⟩ n c cur.toArray t (bytesV (l.take m)) Tryd.underlying23 (by kernel_rfl) hg (by rw [hlen, hm])
    (fun j v hj => by
      have hj' : j < m := by rw [← hlen]; exact (List.getElem?_eq_some_iff.1 hj).1
      rw [Addr.add_lit, hb.cells j (by omega)]
      have hjl : j < l.length := by rw [hb.1]; omega
      unfold bytesV at hj
      rw [List.getElem?_map, List.getElem?_take, if_pos hj', List.getElem?_eq_getElem hjl] at hj
      simp only [Option.map_some, Option.some.injEq] at hj
      subst hj
      simp [B, hjl]) (by rw [hlen]; simpa using hfit) (bytesV_one _)
  rw [hlen] at hr
  refine wpList_ok (v := goInt m) (w' := w.setRow g (splice cur off (bytesV (l.take m))).toArray) hgd ?_ (h _ (setRow_heap w g cur.toArray _ t (0, 0) hg) ⟨rfl, rfl, rfl, by simp, fun k _ hk => setRow_other w g k _ (fun e => hk (by simp [e]))⟩ (by simp))
  unfold execOp
  simp only [ho, resolve, invoke, builtin, Sem.run_bind, Sem.run_pure, Result.andThen_ok, List.map_toArray, List.map_cons, List.map_nil, hd, hs, hr]
  unfold splice
  rw [hlen]
  simp

theorem hash72 (ws : List UInt32) (rs : List UInt8) (n : Nat) (hw : ws.length = 8) (hr : rs.length = 64) : (hashV ws rs n)[72]? = some (.int .i64 (n : Int)) := by
  unfold hashV
  rw [List.getElem?_append_right (by rw [wordsV_length, hw]; omega), wordsV_length, hw, List.getElem?_append_right (by rw [bytesV_length, hr]; omega), bytesV_length, hr]
  rfl

/-- An address that lies not in a block. -/
def NotInSh (a : Option Addr) (g : Nat) : Prop := ∀ x, a = some x → x.block ≠ g

theorem grownBy_trans {w w1 w2 : World} {row : Option Nat} (h1 : w.grownBy w1 row) (h2 : w1.grownBy w2 row) : w.grownBy w2 row :=
  ⟨h2.os.trans h1.os, h2.tape.trans h1.tape, h2.output.trans h1.output, Nat.le_trans h1.size h2.size, fun k hk hr => (h2.block k (Nat.lt_of_lt_of_le hk h1.size) hr).trans (h1.block k hk hr)⟩
theorem below_grownBy {w w1 : World} (row : Option Nat) (h : Below w.heap.size w w1) : w.grownBy w1 row := ⟨h.os, h.tape, h.output, h.size, fun k hk _ => h.block k hk⟩
theorem Bytes.grown {w w' : World} {a : Option Addr} {n c g : Nat} {l : List UInt8} (h : Bytes w a n c l) (hg : w.grownBy w' (some g)) (hn : NotInSh a g) : Bytes w' a n c l := by
  obtain ⟨h1, h2, h3, h4⟩ := h
  refine ⟨h1, h2, h3, ?_⟩
  rcases h4 with h4 | ⟨b, off, ha, hc⟩
  · exact .inl h4
  · exact .inr ⟨b, off, ha, fun j hj => hg.cell (hc j hj) (by have := hn _ ha; simpa using this)⟩
theorem Tables.grown {w w' : World} {g : Nat} (h : Tables w) (hg : w.grownBy w' (some g)) (h2 : 2 ≤ g) : Tables w' := ⟨h.first.grown hg (by simp; omega), h.round.grown hg (by simp; omega)⟩

theorem write_nil (a : Option Addr) (n c : Nat) (w : World) : Calls Tryd.prog 28 #[.pointer none, .slice a n c] w fun e w' => e = .returned (.tuple #[]) ∧ w = w' := by
  go_enter Tryd.func28, Tryd.ntmps28
  go_wp2
  exact bodyPost_ret (results_none rfl _ _ _) rfl ⟨rfl, rfl⟩

theorem turn_lit (x0 x1 x2 x3 x4 x5 x6 x7 y0 y1 y2 y3 y4 y5 y6 y7 : UInt32) (b : List UInt8) (hb : b.length = 64) (w : World) (ht : Tables w) (hy : turnF [x0, x1, x2, x3, x4, x5, x6, x7] b = [y0, y1, y2, y3, y4, y5, y6, y7]) :
    Calls Tryd.prog 51 #[.agg #[.int .u32 (x0.toNat : Int), .int .u32 (x1.toNat : Int), .int .u32 (x2.toNat : Int), .int .u32 (x3.toNat : Int), .int .u32 (x4.toNat : Int), .int .u32 (x5.toNat : Int), .int .u32 (x6.toNat : Int), .int .u32 (x7.toNat : Int)], .agg (bytesV b).toArray] w fun e w' => e = .returned (.agg #[.int .u32 (y0.toNat : Int), .int .u32 (y1.toNat : Int), .int .u32 (y2.toNat : Int), .int .u32 (y3.toNat : Int), .int .u32 (y4.toNat : Int), .int .u32 (y5.toNat : Int), .int .u32 (y6.toNat : Int), .int .u32 (y7.toNat : Int)]) ∧ Below w.heap.size w w' := by
  have h := turn_any x0 x1 x2 x3 x4 x5 x6 x7 b hb w ht
  rw [hy] at h
  exact h

theorem set8 (x0 x1 x2 x3 x4 x5 x6 x7 y0 y1 y2 y3 y4 y5 y6 y7 : UInt32) (g N : Nat) (rs : List UInt8) (w : World) (hr : RowAt w g 94 (hashV [x0, x1, x2, x3, x4, x5, x6, x7] rs N)) :
    RowAt ((((((((w.setCell ⟨g, 0, none⟩ (.int .u32 (y0.toNat : Int))).setCell ⟨g, 1, none⟩ (.int .u32 (y1.toNat : Int))).setCell ⟨g, 2, none⟩ (.int .u32 (y2.toNat : Int))).setCell ⟨g, 3, none⟩ (.int .u32 (y3.toNat : Int))).setCell ⟨g, 4, none⟩ (.int .u32 (y4.toNat : Int))).setCell ⟨g, 5, none⟩ (.int .u32 (y5.toNat : Int))).setCell ⟨g, 6, none⟩ (.int .u32 (y6.toNat : Int))).setCell ⟨g, 7, none⟩ (.int .u32 (y7.toNat : Int))) g 94 (hashV [y0, y1, y2, y3, y4, y5, y6, y7] rs N) ∧ w.grownBy ((((((((w.setCell ⟨g, 0, none⟩ (.int .u32 (y0.toNat : Int))).setCell ⟨g, 1, none⟩ (.int .u32 (y1.toNat : Int))).setCell ⟨g, 2, none⟩ (.int .u32 (y2.toNat : Int))).setCell ⟨g, 3, none⟩ (.int .u32 (y3.toNat : Int))).setCell ⟨g, 4, none⟩ (.int .u32 (y4.toNat : Int))).setCell ⟨g, 5, none⟩ (.int .u32 (y5.toNat : Int))).setCell ⟨g, 6, none⟩ (.int .u32 (y6.toNat : Int))).setCell ⟨g, 7, none⟩ (.int .u32 (y7.toNat : Int))) (some g) := by
  refine ⟨((((((((hr.set 0 (.int .u32 (y0.toNat : Int))).set 1 (.int .u32 (y1.toNat : Int))).set 2 (.int .u32 (y2.toNat : Int))).set 3 (.int .u32 (y3.toNat : Int))).set 4 (.int .u32 (y4.toNat : Int))).set 5 (.int .u32 (y5.toNat : Int))).set 6 (.int .u32 (y6.toNat : Int))).set 7 (.int .u32 (y7.toNat : Int))), ?_⟩
  have S : ∀ (W : World) (j : Nat) (v : Value), W.grownBy (W.setCell ⟨g, j, none⟩ v) (some g) := fun W j v => ⟨rfl, rfl, rfl, by simp [World.setCell], fun i _ hi => Below.heap_setCell _ _ _ _ (fun e => hi (by simp [e]))⟩
  exact (grownBy_trans (grownBy_trans (grownBy_trans (grownBy_trans (grownBy_trans (grownBy_trans (grownBy_trans (S _ 0 _) (S _ 1 _)) (S _ 2 _)) (S _ 3 _)) (S _ 4 _)) (S _ 5 _)) (S _ 6 _)) (S _ 7 _))

theorem turn_row (x0 x1 x2 x3 x4 x5 x6 x7 y0 y1 y2 y3 y4 y5 y6 y7 : UInt32) (g N : Nat) (rs : List UInt8) (hb : rs.length = 64) (w : World) (ht : Tables w) (hr : RowAt w g 94 (hashV [x0, x1, x2, x3, x4, x5, x6, x7] rs N)) (hy : turnF [x0, x1, x2, x3, x4, x5, x6, x7] rs = [y0, y1, y2, y3, y4, y5, y6, y7]) :
    Calls Tryd.prog 51 #[.agg #[.int .u32 (x0.toNat : Int), .int .u32 (x1.toNat : Int), .int .u32 (x2.toNat : Int), .int .u32 (x3.toNat : Int), .int .u32 (x4.toNat : Int), .int .u32 (x5.toNat : Int), .int .u32 (x6.toNat : Int), .int .u32 (x7.toNat : Int)], .agg (bytesV rs).toArray] w fun e w' => e = .returned (.agg #[.int .u32 (y0.toNat : Int), .int .u32 (y1.toNat : Int), .int .u32 (y2.toNat : Int), .int .u32 (y3.toNat : Int), .int .u32 (y4.toNat : Int), .int .u32 (y5.toNat : Int), .int .u32 (y6.toNat : Int), .int .u32 (y7.toNat : Int)]) ∧ (RowAt w' g 94 (hashV [x0, x1, x2, x3, x4, x5, x6, x7] rs N) ∧ Below w.heap.size w w') ∧ w'.cell? ⟨g, 0, none⟩ = some (.int .u32 (x0.toNat : Int)) ∧ w'.cell? ⟨g, 1, none⟩ = some (.int .u32 (x1.toNat : Int)) ∧ w'.cell? ⟨g, 2, none⟩ = some (.int .u32 (x2.toNat : Int)) ∧ w'.cell? ⟨g, 3, none⟩ = some (.int .u32 (x3.toNat : Int)) ∧ w'.cell? ⟨g, 4, none⟩ = some (.int .u32 (x4.toNat : Int)) ∧ w'.cell? ⟨g, 5, none⟩ = some (.int .u32 (x5.toNat : Int)) ∧ w'.cell? ⟨g, 6, none⟩ = some (.int .u32 (x6.toNat : Int)) ∧ w'.cell? ⟨g, 7, none⟩ = some (.int .u32 (x7.toNat : Int)) ∧ w'.frozen? ⟨g, 0, none⟩ = false ∧ w'.frozen? ⟨g, 1, none⟩ = false ∧ w'.frozen? ⟨g, 2, none⟩ = false ∧ w'.frozen? ⟨g, 3, none⟩ = false ∧ w'.frozen? ⟨g, 4, none⟩ = false ∧ w'.frozen? ⟨g, 5, none⟩ = false ∧ w'.frozen? ⟨g, 6, none⟩ = false ∧ w'.frozen? ⟨g, 7, none⟩ = false := by
  refine (turn_lit x0 x1 x2 x3 x4 x5 x6 x7 y0 y1 y2 y3 y4 y5 y6 y7 rs hb w ht hy).mono ?_
  rintro e w' ⟨h1, h2⟩
  have h3 := hr.below h2
  exact ⟨h1, ⟨h3, h2⟩, h3.cell 0 rfl, h3.cell 1 rfl, h3.cell 2 rfl, h3.cell 3 rfl, h3.cell 4 rfl, h3.cell 5 rfl, h3.cell 6 rfl, h3.cell 7 rfl, h3.free 0, h3.free 1, h3.free 2, h3.free 3, h3.free 4, h3.free 5, h3.free 6, h3.free 7⟩

set_option maxRecDepth 100000 in
set_option maxHeartbeats 400000 in
theorem write_any (g : Nat) (l : List UInt8) (a : Option Addr) (n c : Nat) (m : List UInt8) (w : World) (hh : HashOf w g l) (ht : Tables w) (hg2 : 2 ≤ g) (hb : Bytes w a n c m) (hni : NotInSh a g) (hl : l.length + m.length ≤ 1000000000000000) :
    Calls Tryd.prog 28 #[.pointer (some ⟨g, 0, none⟩), .slice a n c] w fun e w' => e = .returned (.tuple #[]) ∧ HashOf w' g (l ++ m) ∧ w.grownBy w' (some g) := by
  have hmn := hb.1
  have HM := Lib.hid hl
  clear hl
  go_enter Tryd.func28, Tryd.ntmps28
  go_wp2
  go_loopg [1] n (fun gh v1 W => ∃ (a' : Option Addr) (c' : Nat) (done rem : List UInt8), v1 = .slice a' gh c' ∧ Bytes W a' gh c' rem ∧ NotInSh a' g ∧ Hid (m = done ++ rem) ∧ HashOf W g (l ++ done) ∧ Tables W ∧ w.grownBy W (some g))
  case atStart => exact ⟨a, c, [], m, rfl, hb, hni, rfl, by simpa using hh, ht, ⟨rfl, rfl, rfl, Nat.le_refl _, fun _ _ _ => rfl⟩⟩
  case round =>
    obtain ⟨a', c', done, rem, rfl, hB, hn', hsplit, hH, hT, hgr⟩ := hrel
    clear hh ht hb hni hmn
    by_cases h0 : gk = 0
    · subst h0
      have hrem : rem = [] := List.length_eq_zero_iff.1 hB.1
      have HE := Lib.hid (show m = done by rw [hsplit.out, hrem, List.append_nil])
      clear hrem hB
      go_wp2
      go_end0
      exact ⟨rfl, by rw [HE.out]; exact hH, hgr⟩
    · obtain ⟨b, so, rfl⟩ : ∃ b so, a' = some ⟨b, so, none⟩ := by
        rcases hB.2.2.2 with ⟨h, _⟩ | ⟨b, so, rfl, _⟩
        · exact absurd h h0
        · exact ⟨b, so, rfl⟩
      have hlen := hash_len hH
      obtain ⟨rs, hrs, htk, hrow⟩ := hH
      have hDl : (l ++ done).length ≤ 1000000000000000 := by
        have := HM.out
        rw [hsplit.out] at this
        simp at this ⊢
        omega
      obtain ⟨D, hD⟩ : ∃ D, D = l ++ done := ⟨_, rfl⟩
      rw [← hD] at hlen htk hrow hDl
      have HD := Lib.hid hD
      have hws := stF_length D (D.length / 64)
      obtain ⟨ws, hws0⟩ : ∃ ws, ws = stF D (D.length / 64) := ⟨_, rfl⟩
      rw [← hws0] at hrow hws
      have HWS := Lib.hid hws0
      have hheld : D.length % 64 < 64 := Nat.mod_lt _ (by omega)
      obtain ⟨L, hL⟩ : ∃ L, L = D.length := ⟨_, rfl⟩
      rw [← hL] at hlen htk hrow hDl hheld
      have HLD := Lib.hid hL
      obtain ⟨held, hhl⟩ : ∃ h, h = L % 64 := ⟨_, rfl⟩
      rw [← hhl] at htk hheld
      have hhi := Lib.hid (show (L : Int) % 64 = (held : Int) by omega)
      have HHL := Lib.hid hhl
      obtain ⟨k, hk⟩ : ∃ k, k = Nat.min gk (64 - held) := ⟨_, rfl⟩
      have hk1 : 1 ≤ k := by rw [hk]; simp [Nat.min_def]; split <;> omega
      have hk2 : k ≤ gk := by rw [hk]; exact Nat.min_le_left _ _
      have hk4 : k ≤ 64 - held := by rw [hk]; exact Nat.min_le_right _ _
      have hk3 : held + k ≤ 64 := by omega
      have hkm : k = Nat.min gk (64 - held) := hk
      have HK := Lib.hid hkm
      have hsl := fun W => run_slice_from Tryd.underlying92 size_byte g 8 (held : Int) held rfl hheld W
      have hx : (rem.take k).length = k := by rw [List.length_take, hB.1]; omega
      have HX := Lib.hid hx
      have hspl := splice_hash ws rs (rem.take k) L held hws hrs (by omega)
      have hDL := HLD.out
      have hHL := HHL.out
      have hb1 := hB.1
      have hcap : gk ≤ c' := hB.2.1
      have hc63 : c' ≤ 9223372036854775807 := hB.2.2.1
      have HT := Lib.hid htk
      obtain ⟨rs2, hrs2⟩ : ∃ rs2, rs2 = splice rs held (rem.take k) := ⟨_, rfl⟩
      rw [← hrs2] at hspl
      have HR2 := Lib.hid hrs2
      have hrl : rs2.length = 64 := by rw [hrs2, length_splice _ _ _ (by omega)]; exact hrs
      have HRL := Lib.hid hrl
      have hfit : 8 + held + k ≤ (hashV ws rs L).length := by rw [hash_length _ _ _ hws hrs]; omega
      have HF := Lib.hid hfit
      have HSP := Lib.hid hspl
      have HWL := Lib.hid hws
      have HRS := Lib.hid hrs
      have htake : Bytes wr (some ⟨b, so + k, none⟩) (gk - k) (c' - k) (rem.drop k) := by
        have := hB.cut k (gk - k) (by omega)
        rwa [List.take_of_length_le (by simp; omega)] at this
      have HTB := Lib.hid htake
      have HHI := Lib.hid hhi.out
      have hhi' := hhi.out
      clear hk hkm hx hspl hrs2 hrl hfit hws hrs htk hD hL hws0 hDL hHL hhl hb1 htake hhi
      by_cases hfull : held + k = 64
      · have hws8 : ∃ x0 x1 x2 x3 x4 x5 x6 x7, ws = [x0, x1, x2, x3, x4, x5, x6, x7] := by
          have := HWL.out
          match ws, this with
          | [x0, x1, x2, x3, x4, x5, x6, x7], _ => exact ⟨_, _, _, _, _, _, _, _, rfl⟩
        obtain ⟨x0, x1, x2, x3, x4, x5, x6, x7, rfl⟩ := hws8
        by_cases hck : c' = k
        · obtain rfl : c' = gk := by omega
          obtain rfl : k = c' := by omega
          go_wp2_with ((with_reducible show wpList _ _ _ (⟨some 22, _, _, _, _, _⟩ :: _) _ _); go_must (refine copy_row rfl (.tmp 20) (.tmp 21) rfl g (8 + held) 94 (hashV [x0, x1, x2, x3, x4, x5, x6, x7] rs L) hrow (64 - held) (64 - held) rfl b so k k rem rfl hB k HK.out HF.out ?_); intro w2 hr2 hgr2 hsz2; rw [HSP.out] at hr2; have HS2 := Lib.hid hsz2; clear hsz2; have hcl := hr2.cell 72 (hash72 [x0, x1, x2, x3, x4, x5, x6, x7] rs2 L HWL.out HRL.out); have hfz := hr2.free 72)
          have hr3 : RowAt (w2.setCell ⟨g, 72, none⟩ (.int .i64 ((L : Int) + (k : Int)))) g 94 (hashV [x0, x1, x2, x3, x4, x5, x6, x7] rs2 (L + k)) := by
            have := hr2.set 72 (.int .i64 (((L + k : Nat)) : Int))
            rw [set_hash _ _ _ _ rfl HRL.out] at this
            rw [show (L : Int) + (k : Int) = ((L + k : Nat) : Int) from by omega]
            exact this
          have hset : w2.grownBy (w2.setCell ⟨g, 72, none⟩ (.int .i64 ((L : Int) + (k : Int)))) (some g) := ⟨rfl, rfl, rfl, by simp [World.setCell], fun i _ hi => Below.heap_setCell _ _ _ _ (fun e => hi (by simp [e]))⟩
          have hgr3 := grownBy_trans hgr2 hset
          have hT3 := (hT.grown hgr2 hg2).grown hset hg2
          generalize (w2.setCell ⟨g, 72, none⟩ (.int .i64 ((L : Int) + (k : Int)))) = w3 at hr3 hset hgr3 hT3 ⊢
          have HTT := Lib.hid hT
          clear hr2 hgr2 hset hcl hfz hrow hlen hB hT
          have hu := Tryd.underlying92
          have hi : (Tryd.prog.info? 92).map (·.size) = some (bytesV rs2).length := by rw [bytesV_length, HRL.out]; exact info_64b
          obtain ⟨y0, y1, y2, y3, y4, y5, y6, y7, hy⟩ : ∃ y0 y1 y2 y3 y4 y5 y6 y7, turnF [x0, x1, x2, x3, x4, x5, x6, x7] rs2 = [y0, y1, y2, y3, y4, y5, y6, y7] := ⟨_, _, _, _, _, _, _, _, rfl⟩
          have HY := Lib.hid hy
          have hrd : RowAt w3.drew g 94 (hashV [x0, x1, x2, x3, x4, x5, x6, x7] rs2 (L + k)) := hr3.drew
          have hTd : Tables w3.drew := ⟨hT3.first.drew, hT3.round.drew⟩
          have q2 : w3.drew.rangeAt g 8 (bytesV rs2) := hrd.range (show (hashV [x0, x1, x2, x3, x4, x5, x6, x7] rs2 (L + k)) = wordsV [x0, x1, x2, x3, x4, x5, x6, x7] ++ (bytesV rs2 ++ [.int .i64 ((L + k : Nat) : Int)]) from rfl)
          clear hy
          have k0 : w3.drew.cell? ⟨g, 0, none⟩ = some (.int .u32 (x0.toNat : Int)) := hrd.cell 0 rfl
          have k1 : w3.drew.cell? ⟨g, 1, none⟩ = some (.int .u32 (x1.toNat : Int)) := hrd.cell 1 rfl
          have k2 : w3.drew.cell? ⟨g, 2, none⟩ = some (.int .u32 (x2.toNat : Int)) := hrd.cell 2 rfl
          have k3 : w3.drew.cell? ⟨g, 3, none⟩ = some (.int .u32 (x3.toNat : Int)) := hrd.cell 3 rfl
          have k4 : w3.drew.cell? ⟨g, 4, none⟩ = some (.int .u32 (x4.toNat : Int)) := hrd.cell 4 rfl
          have k5 : w3.drew.cell? ⟨g, 5, none⟩ = some (.int .u32 (x5.toNat : Int)) := hrd.cell 5 rfl
          have k6 : w3.drew.cell? ⟨g, 6, none⟩ = some (.int .u32 (x6.toNat : Int)) := hrd.cell 6 rfl
          have k7 : w3.drew.cell? ⟨g, 7, none⟩ = some (.int .u32 (x7.toNat : Int)) := hrd.cell 7 rfl
          have HTR := Lib.hid (turn_row x0 x1 x2 x3 x4 x5 x6 x7 y0 y1 y2 y3 y4 y5 y6 y7 g (L + k) rs2 HRL.out _ hTd hrd HY.out)
          clear hTd hT3
          refine wp_region_any (by kernel_rfl) ?_
          change wpAny _ _ _ _ _ _ _ (World.drew w3)
          refine wpAny_take (i := 0) (oi := ⟨some 38, .move (.tmp 0), _, _, _, _⟩) (v := .pointer (some ⟨g, 0, none⟩)) rfl (by kernel_rfl) (by kernel_rfl) (by kernel_rfl) (fun _ _ _ h => h) (Or.inl ⟨by rfl, fun W => by go_simp⟩) ?_
          refine wpAny_take (i := 1) (oi := ⟨some 39, .move (.tmp 0), _, _, _, _⟩) (v := .pointer (some ⟨g, 0, none⟩)) rfl (by kernel_rfl) (by kernel_rfl) (by kernel_rfl) (fun _ _ _ h => h) (Or.inl ⟨by rfl, fun W => by go_simp⟩) ?_
          refine wpAny_take (i := 2) (oi := ⟨some 40, .nilCheck (.tmp 39), _, _, _, _⟩) (v := .pointer (some ⟨g, 0, none⟩)) rfl (by kernel_rfl) (by kernel_rfl) (by kernel_rfl) (fun _ _ _ h => h) (Or.inl ⟨by rfl, fun W => by go_simp⟩) ?_
          refine wpAny_take (i := 3) (oi := ⟨some 41, .fieldAddr 94 (.tmp 40) 0, _, _, _, _⟩) (v := .pointer (some ⟨g, 0, none⟩)) rfl (by kernel_rfl) (by kernel_rfl) (by kernel_rfl) (fun _ _ _ h => h) (Or.inl ⟨by rfl, fun W => by go_simp⟩) ?_
          refine wpAny_take (i := 5) (oi := ⟨some 43, .move (.tmp 0), _, _, _, _⟩) (v := .pointer (some ⟨g, 0, none⟩)) rfl (by kernel_rfl) (by kernel_rfl) (by kernel_rfl) (fun _ _ _ h => h) (Or.inl ⟨by rfl, fun W => by go_simp⟩) ?_
          refine wpAny_take (i := 6) (oi := ⟨some 44, .nilCheck (.tmp 43), _, _, _, _⟩) (v := .pointer (some ⟨g, 0, none⟩)) rfl (by kernel_rfl) (by kernel_rfl) (by kernel_rfl) (fun _ _ _ h => h) (Or.inl ⟨by rfl, fun W => by go_simp⟩) ?_
          refine wpAny_take (i := 7) (oi := ⟨some 45, .fieldAddr 94 (.tmp 44) 1, _, _, _, _⟩) (v := .pointer (some ⟨g, 8, none⟩)) rfl (by kernel_rfl) (by kernel_rfl) (by kernel_rfl) (fun _ _ _ h => h) (Or.inl ⟨by rfl, fun W => by go_simp⟩) ?_
          simp only [Act.put, List.setIfInBounds_toArray, List.set_cons_zero, List.set_cons_succ]
          refine wpAny_ready (rs := [4, 8]) (by kernel_rfl) (by simp) ?_
          refine AllReady.cons (o := ⟨some 42, .load 91 (.tmp 41), _, _, _, _⟩) rfl (fun K hK => ?_) (AllReady.cons (o := ⟨some 46, .load 92 (.tmp 45), _, _, _, _⟩) rfl (fun K hK => ?_) AllReady.nil)
          · go_simp
            refine hK _ _ ?_
            clear hK K
            refine wpAny_ready (rs := [8]) (by kernel_rfl) (by simp) ?_
            refine AllReady.cons (o := ⟨some 46, .load 92 (.tmp 45), _, _, _, _⟩) rfl (fun K hK => ?_) AllReady.nil
            rw [if_pos (by rfl)]
            refine wp_load_mid _ _ rfl g 8 rfl (bytesV rs2) _ q2 hu rfl hi ?_
            refine hK _ _ ?_
            clear hK K
            simp only [Act.put, List.setIfInBounds_toArray, List.set_cons_zero, List.set_cons_succ]
            refine wpAny_ready (rs := [9]) (by kernel_rfl) (by simp) ?_
            refine AllReady.cons (o := ⟨some 47, .call { callee := .value (.func 51), args := #[.tmp 42, .tmp 46], argTypes := #[91, 92] }, _, _, _, _⟩) rfl (fun K hK => ?_) AllReady.nil
            go_simp
            go_wp2_with (go_at_call 51; refine (HTR.out).mono ?_; rintro e w4 ⟨rfl, hr4, j0, j1, j2, j3, j4, j5, j6, j7, z0, z1, z2, z3, z4, z5, z6, z7⟩)
            refine wpAny_take (i := 10) (oi := ⟨some 48, .nilCheck (.tmp 38), _, _, _, _⟩) (v := .pointer (some ⟨g, 0, none⟩)) rfl (by kernel_rfl) (by kernel_rfl) (by kernel_rfl) (fun _ _ _ h => h) (Or.inl ⟨by rfl, fun W => by go_simp⟩) ?_
            refine wpAny_take (i := 11) (oi := ⟨some 49, .fieldAddr 94 (.tmp 48) 0, _, _, _, _⟩) (v := .pointer (some ⟨g, 0, none⟩)) rfl (by kernel_rfl) (by kernel_rfl) (by kernel_rfl) (fun _ _ _ h => h) (Or.inl ⟨by rfl, fun W => by go_simp⟩) ?_
            simp only [Act.put, List.setIfInBounds_toArray, List.set_cons_zero, List.set_cons_succ]
            refine wpAny_ready (rs := [12]) (by kernel_rfl) (by simp) ?_
            refine AllReady.cons (o := ⟨none, .store 91 (.tmp 49) (.tmp 47), _, _, _, _⟩) rfl (fun K hK => ?_) AllReady.nil
            go_simp
            refine hK _ _ ?_
            clear hK K
            refine wpAny_done (by kernel_rfl) ?_ _
            go_wp2
            go_roundg 0
            case measure => omega
            case rel =>
              obtain ⟨hr5, hgr5⟩ := set8 x0 x1 x2 x3 x4 x5 x6 x7 y0 y1 y2 y3 y4 y5 y6 y7 g (L + k) rs2 w4 hr4.1
              have hgr4 : w3.grownBy w4 (some g) := grownBy_trans (w1 := w3.drew) ⟨rfl, rfl, rfl, Nat.le_refl _, fun _ _ _ => rfl⟩ (below_grownBy (some g) hr4.2)
              have hgall := grownBy_trans hgr3 (grownBy_trans hgr4 hgr5)
              have hfin := hash_full HLD.out HHL.out HX.out (by omega) HRS.out HT.out HR2.out HWS.out (by rw [HY.out]; exact hr5)
              have hTB := HTB.out
              rw [Nat.sub_self] at hTB
              refine ⟨some ⟨b, so, none⟩, 0, done ++ rem.take k, rem.drop k, by simp, ⟨hTB.1, Nat.le_refl _, by omega, .inl ⟨rfl, rfl⟩⟩, hn', ?_, ?_, HTT.out.grown hgall hg2, grownBy_trans hgr hgall⟩
              · show m = _
                rw [hsplit.out, List.append_assoc, List.take_append_drop]
              · rw [← List.append_assoc, ← HD.out]; exact hfin
          · rw [if_pos (by rfl)]
            refine wp_load_mid _ _ rfl g 8 rfl (bytesV rs2) _ q2 hu rfl hi ?_
            refine hK _ _ ?_
            clear hK K
            simp only [Act.put, List.setIfInBounds_toArray, List.set_cons_zero, List.set_cons_succ]
            refine wpAny_ready (rs := [4]) (by kernel_rfl) (by simp) ?_
            refine AllReady.cons (o := ⟨some 42, .load 91 (.tmp 41), _, _, _, _⟩) rfl (fun K hK => ?_) AllReady.nil
            go_simp
            refine hK _ _ ?_
            clear hK K
            refine wpAny_ready (rs := [9]) (by kernel_rfl) (by simp) ?_
            refine AllReady.cons (o := ⟨some 47, .call { callee := .value (.func 51), args := #[.tmp 42, .tmp 46], argTypes := #[91, 92] }, _, _, _, _⟩) rfl (fun K hK => ?_) AllReady.nil
            go_simp
            go_wp2_with (go_at_call 51; refine (HTR.out).mono ?_; rintro e w4 ⟨rfl, hr4, j0, j1, j2, j3, j4, j5, j6, j7, z0, z1, z2, z3, z4, z5, z6, z7⟩)
            refine wpAny_take (i := 10) (oi := ⟨some 48, .nilCheck (.tmp 38), _, _, _, _⟩) (v := .pointer (some ⟨g, 0, none⟩)) rfl (by kernel_rfl) (by kernel_rfl) (by kernel_rfl) (fun _ _ _ h => h) (Or.inl ⟨by rfl, fun W => by go_simp⟩) ?_
            refine wpAny_take (i := 11) (oi := ⟨some 49, .fieldAddr 94 (.tmp 48) 0, _, _, _, _⟩) (v := .pointer (some ⟨g, 0, none⟩)) rfl (by kernel_rfl) (by kernel_rfl) (by kernel_rfl) (fun _ _ _ h => h) (Or.inl ⟨by rfl, fun W => by go_simp⟩) ?_
            simp only [Act.put, List.setIfInBounds_toArray, List.set_cons_zero, List.set_cons_succ]
            refine wpAny_ready (rs := [12]) (by kernel_rfl) (by simp) ?_
            refine AllReady.cons (o := ⟨none, .store 91 (.tmp 49) (.tmp 47), _, _, _, _⟩) rfl (fun K hK => ?_) AllReady.nil
            go_simp
            refine hK _ _ ?_
            clear hK K
            refine wpAny_done (by kernel_rfl) ?_ _
            go_wp2
            go_roundg 0
            case measure => omega
            case rel =>
              obtain ⟨hr5, hgr5⟩ := set8 x0 x1 x2 x3 x4 x5 x6 x7 y0 y1 y2 y3 y4 y5 y6 y7 g (L + k) rs2 w4 hr4.1
              have hgr4 : w3.grownBy w4 (some g) := grownBy_trans (w1 := w3.drew) ⟨rfl, rfl, rfl, Nat.le_refl _, fun _ _ _ => rfl⟩ (below_grownBy (some g) hr4.2)
              have hgall := grownBy_trans hgr3 (grownBy_trans hgr4 hgr5)
              have hfin := hash_full HLD.out HHL.out HX.out (by omega) HRS.out HT.out HR2.out HWS.out (by rw [HY.out]; exact hr5)
              have hTB := HTB.out
              rw [Nat.sub_self] at hTB
              refine ⟨some ⟨b, so, none⟩, 0, done ++ rem.take k, rem.drop k, by simp, ⟨hTB.1, Nat.le_refl _, by omega, .inl ⟨rfl, rfl⟩⟩, hn', ?_, ?_, HTT.out.grown hgall hg2, grownBy_trans hgr hgall⟩
              · show m = _
                rw [hsplit.out, List.append_assoc, List.take_append_drop]
              · rw [← List.append_assoc, ← HD.out]; exact hfin
        · go_wp2_with ((with_reducible show wpList _ _ _ (⟨some 22, _, _, _, _, _⟩ :: _) _ _); go_must (refine copy_row rfl (.tmp 20) (.tmp 21) rfl g (8 + held) 94 (hashV [x0, x1, x2, x3, x4, x5, x6, x7] rs L) hrow (64 - held) (64 - held) rfl b so gk c' rem rfl hB k HK.out HF.out ?_); intro w2 hr2 hgr2 hsz2; rw [HSP.out] at hr2; have HS2 := Lib.hid hsz2; clear hsz2; have hcl := hr2.cell 72 (hash72 [x0, x1, x2, x3, x4, x5, x6, x7] rs2 L HWL.out HRL.out); have hfz := hr2.free 72)
          have hr3 : RowAt (w2.setCell ⟨g, 72, none⟩ (.int .i64 ((L : Int) + (k : Int)))) g 94 (hashV [x0, x1, x2, x3, x4, x5, x6, x7] rs2 (L + k)) := by
            have := hr2.set 72 (.int .i64 (((L + k : Nat)) : Int))
            rw [set_hash _ _ _ _ rfl HRL.out] at this
            rw [show (L : Int) + (k : Int) = ((L + k : Nat) : Int) from by omega]
            exact this
          have hset : w2.grownBy (w2.setCell ⟨g, 72, none⟩ (.int .i64 ((L : Int) + (k : Int)))) (some g) := ⟨rfl, rfl, rfl, by simp [World.setCell], fun i _ hi => Below.heap_setCell _ _ _ _ (fun e => hi (by simp [e]))⟩
          have hgr3 := grownBy_trans hgr2 hset
          have hT3 := (hT.grown hgr2 hg2).grown hset hg2
          generalize (w2.setCell ⟨g, 72, none⟩ (.int .i64 ((L : Int) + (k : Int)))) = w3 at hr3 hset hgr3 hT3 ⊢
          have HTT := Lib.hid hT
          clear hr2 hgr2 hset hcl hfz hrow hlen hB hT
          have hu := Tryd.underlying92
          have hi : (Tryd.prog.info? 92).map (·.size) = some (bytesV rs2).length := by rw [bytesV_length, HRL.out]; exact info_64b
          obtain ⟨y0, y1, y2, y3, y4, y5, y6, y7, hy⟩ : ∃ y0 y1 y2 y3 y4 y5 y6 y7, turnF [x0, x1, x2, x3, x4, x5, x6, x7] rs2 = [y0, y1, y2, y3, y4, y5, y6, y7] := ⟨_, _, _, _, _, _, _, _, rfl⟩
          have HY := Lib.hid hy
          have hrd : RowAt w3.drew g 94 (hashV [x0, x1, x2, x3, x4, x5, x6, x7] rs2 (L + k)) := hr3.drew
          have hTd : Tables w3.drew := ⟨hT3.first.drew, hT3.round.drew⟩
          have q2 : w3.drew.rangeAt g 8 (bytesV rs2) := hrd.range (show (hashV [x0, x1, x2, x3, x4, x5, x6, x7] rs2 (L + k)) = wordsV [x0, x1, x2, x3, x4, x5, x6, x7] ++ (bytesV rs2 ++ [.int .i64 ((L + k : Nat) : Int)]) from rfl)
          clear hy
          have k0 : w3.drew.cell? ⟨g, 0, none⟩ = some (.int .u32 (x0.toNat : Int)) := hrd.cell 0 rfl
          have k1 : w3.drew.cell? ⟨g, 1, none⟩ = some (.int .u32 (x1.toNat : Int)) := hrd.cell 1 rfl
          have k2 : w3.drew.cell? ⟨g, 2, none⟩ = some (.int .u32 (x2.toNat : Int)) := hrd.cell 2 rfl
          have k3 : w3.drew.cell? ⟨g, 3, none⟩ = some (.int .u32 (x3.toNat : Int)) := hrd.cell 3 rfl
          have k4 : w3.drew.cell? ⟨g, 4, none⟩ = some (.int .u32 (x4.toNat : Int)) := hrd.cell 4 rfl
          have k5 : w3.drew.cell? ⟨g, 5, none⟩ = some (.int .u32 (x5.toNat : Int)) := hrd.cell 5 rfl
          have k6 : w3.drew.cell? ⟨g, 6, none⟩ = some (.int .u32 (x6.toNat : Int)) := hrd.cell 6 rfl
          have k7 : w3.drew.cell? ⟨g, 7, none⟩ = some (.int .u32 (x7.toNat : Int)) := hrd.cell 7 rfl
          have HTR := Lib.hid (turn_row x0 x1 x2 x3 x4 x5 x6 x7 y0 y1 y2 y3 y4 y5 y6 y7 g (L + k) rs2 HRL.out _ hTd hrd HY.out)
          clear hTd hT3
          refine wp_region_any (by kernel_rfl) ?_
          change wpAny _ _ _ _ _ _ _ (World.drew w3)
          refine wpAny_take (i := 0) (oi := ⟨some 38, .move (.tmp 0), _, _, _, _⟩) (v := .pointer (some ⟨g, 0, none⟩)) rfl (by kernel_rfl) (by kernel_rfl) (by kernel_rfl) (fun _ _ _ h => h) (Or.inl ⟨by rfl, fun W => by go_simp⟩) ?_
          refine wpAny_take (i := 1) (oi := ⟨some 39, .move (.tmp 0), _, _, _, _⟩) (v := .pointer (some ⟨g, 0, none⟩)) rfl (by kernel_rfl) (by kernel_rfl) (by kernel_rfl) (fun _ _ _ h => h) (Or.inl ⟨by rfl, fun W => by go_simp⟩) ?_
          refine wpAny_take (i := 2) (oi := ⟨some 40, .nilCheck (.tmp 39), _, _, _, _⟩) (v := .pointer (some ⟨g, 0, none⟩)) rfl (by kernel_rfl) (by kernel_rfl) (by kernel_rfl) (fun _ _ _ h => h) (Or.inl ⟨by rfl, fun W => by go_simp⟩) ?_
          refine wpAny_take (i := 3) (oi := ⟨some 41, .fieldAddr 94 (.tmp 40) 0, _, _, _, _⟩) (v := .pointer (some ⟨g, 0, none⟩)) rfl (by kernel_rfl) (by kernel_rfl) (by kernel_rfl) (fun _ _ _ h => h) (Or.inl ⟨by rfl, fun W => by go_simp⟩) ?_
          refine wpAny_take (i := 5) (oi := ⟨some 43, .move (.tmp 0), _, _, _, _⟩) (v := .pointer (some ⟨g, 0, none⟩)) rfl (by kernel_rfl) (by kernel_rfl) (by kernel_rfl) (fun _ _ _ h => h) (Or.inl ⟨by rfl, fun W => by go_simp⟩) ?_
          refine wpAny_take (i := 6) (oi := ⟨some 44, .nilCheck (.tmp 43), _, _, _, _⟩) (v := .pointer (some ⟨g, 0, none⟩)) rfl (by kernel_rfl) (by kernel_rfl) (by kernel_rfl) (fun _ _ _ h => h) (Or.inl ⟨by rfl, fun W => by go_simp⟩) ?_
          refine wpAny_take (i := 7) (oi := ⟨some 45, .fieldAddr 94 (.tmp 44) 1, _, _, _, _⟩) (v := .pointer (some ⟨g, 8, none⟩)) rfl (by kernel_rfl) (by kernel_rfl) (by kernel_rfl) (fun _ _ _ h => h) (Or.inl ⟨by rfl, fun W => by go_simp⟩) ?_
          simp only [Act.put, List.setIfInBounds_toArray, List.set_cons_zero, List.set_cons_succ]
          refine wpAny_ready (rs := [4, 8]) (by kernel_rfl) (by simp) ?_
          refine AllReady.cons (o := ⟨some 42, .load 91 (.tmp 41), _, _, _, _⟩) rfl (fun K hK => ?_) (AllReady.cons (o := ⟨some 46, .load 92 (.tmp 45), _, _, _, _⟩) rfl (fun K hK => ?_) AllReady.nil)
          · go_simp
            refine hK _ _ ?_
            clear hK K
            refine wpAny_ready (rs := [8]) (by kernel_rfl) (by simp) ?_
            refine AllReady.cons (o := ⟨some 46, .load 92 (.tmp 45), _, _, _, _⟩) rfl (fun K hK => ?_) AllReady.nil
            rw [if_pos (by rfl)]
            refine wp_load_mid _ _ rfl g 8 rfl (bytesV rs2) _ q2 hu rfl hi ?_
            refine hK _ _ ?_
            clear hK K
            simp only [Act.put, List.setIfInBounds_toArray, List.set_cons_zero, List.set_cons_succ]
            refine wpAny_ready (rs := [9]) (by kernel_rfl) (by simp) ?_
            refine AllReady.cons (o := ⟨some 47, .call { callee := .value (.func 51), args := #[.tmp 42, .tmp 46], argTypes := #[91, 92] }, _, _, _, _⟩) rfl (fun K hK => ?_) AllReady.nil
            go_simp
            go_wp2_with (go_at_call 51; refine (HTR.out).mono ?_; rintro e w4 ⟨rfl, hr4, j0, j1, j2, j3, j4, j5, j6, j7, z0, z1, z2, z3, z4, z5, z6, z7⟩)
            refine wpAny_take (i := 10) (oi := ⟨some 48, .nilCheck (.tmp 38), _, _, _, _⟩) (v := .pointer (some ⟨g, 0, none⟩)) rfl (by kernel_rfl) (by kernel_rfl) (by kernel_rfl) (fun _ _ _ h => h) (Or.inl ⟨by rfl, fun W => by go_simp⟩) ?_
            refine wpAny_take (i := 11) (oi := ⟨some 49, .fieldAddr 94 (.tmp 48) 0, _, _, _, _⟩) (v := .pointer (some ⟨g, 0, none⟩)) rfl (by kernel_rfl) (by kernel_rfl) (by kernel_rfl) (fun _ _ _ h => h) (Or.inl ⟨by rfl, fun W => by go_simp⟩) ?_
            simp only [Act.put, List.setIfInBounds_toArray, List.set_cons_zero, List.set_cons_succ]
            refine wpAny_ready (rs := [12]) (by kernel_rfl) (by simp) ?_
            refine AllReady.cons (o := ⟨none, .store 91 (.tmp 49) (.tmp 47), _, _, _, _⟩) rfl (fun K hK => ?_) AllReady.nil
            go_simp
            refine hK _ _ ?_
            clear hK K
            refine wpAny_done (by kernel_rfl) ?_ _
            go_wp2
            go_roundg (gk - k)
            case measure => omega
            case rel =>
              obtain ⟨hr5, hgr5⟩ := set8 x0 x1 x2 x3 x4 x5 x6 x7 y0 y1 y2 y3 y4 y5 y6 y7 g (L + k) rs2 w4 hr4.1
              have hgr4 : w3.grownBy w4 (some g) := grownBy_trans (w1 := w3.drew) ⟨rfl, rfl, rfl, Nat.le_refl _, fun _ _ _ => rfl⟩ (below_grownBy (some g) hr4.2)
              have hgall := grownBy_trans hgr3 (grownBy_trans hgr4 hgr5)
              have hfin := hash_full HLD.out HHL.out HX.out (by omega) HRS.out HT.out HR2.out HWS.out (by rw [HY.out]; exact hr5)
              have hTB := HTB.out.grown hgall (fun x hx => by cases hx; exact hn' ⟨b, so, none⟩ rfl)
              refine ⟨some ⟨b, so + k, none⟩, c' - k, done ++ rem.take k, rem.drop k, rfl, hTB, fun x hx => by cases hx; exact hn' ⟨b, so, none⟩ rfl, ?_, ?_, HTT.out.grown hgall hg2, grownBy_trans hgr hgall⟩
              · show m = _
                rw [hsplit.out, List.append_assoc, List.take_append_drop]
              · rw [← List.append_assoc, ← HD.out]; exact hfin
          · rw [if_pos (by rfl)]
            refine wp_load_mid _ _ rfl g 8 rfl (bytesV rs2) _ q2 hu rfl hi ?_
            refine hK _ _ ?_
            clear hK K
            simp only [Act.put, List.setIfInBounds_toArray, List.set_cons_zero, List.set_cons_succ]
            refine wpAny_ready (rs := [4]) (by kernel_rfl) (by simp) ?_
            refine AllReady.cons (o := ⟨some 42, .load 91 (.tmp 41), _, _, _, _⟩) rfl (fun K hK => ?_) AllReady.nil
            go_simp
            refine hK _ _ ?_
            clear hK K
            refine wpAny_ready (rs := [9]) (by kernel_rfl) (by simp) ?_
            refine AllReady.cons (o := ⟨some 47, .call { callee := .value (.func 51), args := #[.tmp 42, .tmp 46], argTypes := #[91, 92] }, _, _, _, _⟩) rfl (fun K hK => ?_) AllReady.nil
            go_simp
            go_wp2_with (go_at_call 51; refine (HTR.out).mono ?_; rintro e w4 ⟨rfl, hr4, j0, j1, j2, j3, j4, j5, j6, j7, z0, z1, z2, z3, z4, z5, z6, z7⟩)
            refine wpAny_take (i := 10) (oi := ⟨some 48, .nilCheck (.tmp 38), _, _, _, _⟩) (v := .pointer (some ⟨g, 0, none⟩)) rfl (by kernel_rfl) (by kernel_rfl) (by kernel_rfl) (fun _ _ _ h => h) (Or.inl ⟨by rfl, fun W => by go_simp⟩) ?_
            refine wpAny_take (i := 11) (oi := ⟨some 49, .fieldAddr 94 (.tmp 48) 0, _, _, _, _⟩) (v := .pointer (some ⟨g, 0, none⟩)) rfl (by kernel_rfl) (by kernel_rfl) (by kernel_rfl) (fun _ _ _ h => h) (Or.inl ⟨by rfl, fun W => by go_simp⟩) ?_
            simp only [Act.put, List.setIfInBounds_toArray, List.set_cons_zero, List.set_cons_succ]
            refine wpAny_ready (rs := [12]) (by kernel_rfl) (by simp) ?_
            refine AllReady.cons (o := ⟨none, .store 91 (.tmp 49) (.tmp 47), _, _, _, _⟩) rfl (fun K hK => ?_) AllReady.nil
            go_simp
            refine hK _ _ ?_
            clear hK K
            refine wpAny_done (by kernel_rfl) ?_ _
            go_wp2
            go_roundg (gk - k)
            case measure => omega
            case rel =>
              obtain ⟨hr5, hgr5⟩ := set8 x0 x1 x2 x3 x4 x5 x6 x7 y0 y1 y2 y3 y4 y5 y6 y7 g (L + k) rs2 w4 hr4.1
              have hgr4 : w3.grownBy w4 (some g) := grownBy_trans (w1 := w3.drew) ⟨rfl, rfl, rfl, Nat.le_refl _, fun _ _ _ => rfl⟩ (below_grownBy (some g) hr4.2)
              have hgall := grownBy_trans hgr3 (grownBy_trans hgr4 hgr5)
              have hfin := hash_full HLD.out HHL.out HX.out (by omega) HRS.out HT.out HR2.out HWS.out (by rw [HY.out]; exact hr5)
              have hTB := HTB.out.grown hgall (fun x hx => by cases hx; exact hn' ⟨b, so, none⟩ rfl)
              refine ⟨some ⟨b, so + k, none⟩, c' - k, done ++ rem.take k, rem.drop k, rfl, hTB, fun x hx => by cases hx; exact hn' ⟨b, so, none⟩ rfl, ?_, ?_, HTT.out.grown hgall hg2, grownBy_trans hgr hgall⟩
              · show m = _
                rw [hsplit.out, List.append_assoc, List.take_append_drop]
              · rw [← List.append_assoc, ← HD.out]; exact hfin
      · by_cases hck : c' = k
        · obtain rfl : c' = gk := by omega
          obtain rfl : k = c' := by omega
          go_wp2_with ((with_reducible show wpList _ _ _ (⟨some 22, _, _, _, _, _⟩ :: _) _ _); go_must (refine copy_row rfl (.tmp 20) (.tmp 21) rfl g (8 + held) 94 (hashV ws rs L) hrow (64 - held) (64 - held) rfl b so k k rem rfl hB k HK.out HF.out ?_); intro w2 hr2 hgr2 hsz2; rw [HSP.out] at hr2; have HS2 := Lib.hid hsz2; clear hsz2; have hcl := hr2.cell 72 (hash72 ws rs2 L HWL.out HRL.out); have hfz := hr2.free 72)
          go_roundg 0
          case measure => omega
          case rel =>
            have hfin := hash_more HLD.out HHL.out HX.out (by omega) HRS.out HT.out HR2.out HWS.out hr2
            have hgr3 := grownBy_trans (grownBy_trans hgr hgr2) (w2 := w2.setCell ⟨g, 72, none⟩ (.int .i64 ((L : Int) + (k : Int)))) ⟨rfl, rfl, rfl, by simp [World.setCell], fun i _ hi => Below.heap_setCell _ _ _ _ (fun e => hi (by simp [e]))⟩
            have hTB := HTB.out
            rw [Nat.sub_self] at hTB
            refine ⟨some ⟨b, so, none⟩, 0, done ++ rem.take k, rem.drop k, by simp, ⟨hTB.1, Nat.le_refl _, by omega, .inl ⟨rfl, rfl⟩⟩, hn', ?_, ?_, ?_, hgr3⟩
            · show m = _
              rw [hsplit.out, List.append_assoc, List.take_append_drop]
            · rw [← List.append_assoc, ← HD.out]; exact hfin
            · exact (hT.grown hgr2 hg2).grown ⟨rfl, rfl, rfl, by simp [World.setCell], fun i _ hi => Below.heap_setCell _ _ _ _ (fun e => hi (by simp [e]))⟩ hg2
        · go_wp2_with ((with_reducible show wpList _ _ _ (⟨some 22, _, _, _, _, _⟩ :: _) _ _); go_must (refine copy_row rfl (.tmp 20) (.tmp 21) rfl g (8 + held) 94 (hashV ws rs L) hrow (64 - held) (64 - held) rfl b so gk c' rem rfl hB k HK.out HF.out ?_); intro w2 hr2 hgr2 hsz2; rw [HSP.out] at hr2; have HS2 := Lib.hid hsz2; clear hsz2; have hcl := hr2.cell 72 (hash72 ws rs2 L HWL.out HRL.out); have hfz := hr2.free 72)
          go_roundg (gk - k)
          case measure => omega
          case rel =>
            have hfin := hash_more HLD.out HHL.out HX.out (by omega) HRS.out HT.out HR2.out HWS.out hr2
            have hset : w2.grownBy (w2.setCell ⟨g, 72, none⟩ (.int .i64 ((L : Int) + (k : Int)))) (some g) := ⟨rfl, rfl, rfl, by simp [World.setCell], fun i _ hi => Below.heap_setCell _ _ _ _ (fun e => hi (by simp [e]))⟩
            have hTB := (HTB.out.grown hgr2 (fun x hx => by cases hx; exact hn' ⟨b, so, none⟩ rfl)).grown hset (fun x hx => by cases hx; exact hn' ⟨b, so, none⟩ rfl)
            refine ⟨some ⟨b, so + k, none⟩, c' - k, done ++ rem.take k, rem.drop k, rfl, hTB, fun x hx => by cases hx; exact hn' ⟨b, so, none⟩ rfl, ?_, ?_, (hT.grown hgr2 hg2).grown hset hg2, grownBy_trans (grownBy_trans hgr hgr2) hset⟩
            · show m = _
              rw [hsplit.out, List.append_assoc, List.take_append_drop]
            · rw [← List.append_assoc, ← HD.out]; exact hfin
#print axioms copy_row
end Go.Proofs.YtcnhifkpflaibaaDoor

namespace Go.Proofs.YtcnhifkpflaibaaDoor
open Go.RowKit

/-- The bytes of some words, the highest first. -/
def idOf (ws : List UInt32) : List UInt8 := ws.flatMap fun (x : UInt32) => [(x >>> 24).toUInt8, (x >>> 16).toUInt8, (x >>> 8).toUInt8, x.toUInt8]
/-- Some bytes with what follows them. -/
def padF (l : List UInt8) : List UInt8 := l ++ endF l.length
/-- The sum. -/
def sumF (l : List UInt8) : List UInt8 := idOf (stF (padF l) ((padF l).length / 64))

theorem byte_of (x : UInt32) (k : Nat) (hk : k < 32) : ((x.toNat : Int) / (2 ^ k : Nat)) % 256 = (((x >>> UInt32.ofNat k).toUInt8).toNat : Int) := by
  have e1 : (UInt32.ofNat k).toNat = k := by simp; omega
  rw [UInt32.toNat_toUInt8, UInt32.toNat_shiftRight, e1, Nat.mod_eq_of_lt hk, Nat.shiftRight_eq_div_pow]
  omega

theorem id_form (x0 x1 x2 x3 x4 x5 x6 x7 : UInt32) : bytesV (idOf [x0, x1, x2, x3, x4, x5, x6, x7]) = [.int .u8 ((x0.toNat : Int) / 16777216 % 256), .int .u8 ((x0.toNat : Int) / 65536 % 256), .int .u8 ((x0.toNat : Int) / 256 % 256), .int .u8 ((x0.toNat : Int) % 256), .int .u8 ((x1.toNat : Int) / 16777216 % 256), .int .u8 ((x1.toNat : Int) / 65536 % 256), .int .u8 ((x1.toNat : Int) / 256 % 256), .int .u8 ((x1.toNat : Int) % 256), .int .u8 ((x2.toNat : Int) / 16777216 % 256), .int .u8 ((x2.toNat : Int) / 65536 % 256), .int .u8 ((x2.toNat : Int) / 256 % 256), .int .u8 ((x2.toNat : Int) % 256), .int .u8 ((x3.toNat : Int) / 16777216 % 256), .int .u8 ((x3.toNat : Int) / 65536 % 256), .int .u8 ((x3.toNat : Int) / 256 % 256), .int .u8 ((x3.toNat : Int) % 256), .int .u8 ((x4.toNat : Int) / 16777216 % 256), .int .u8 ((x4.toNat : Int) / 65536 % 256), .int .u8 ((x4.toNat : Int) / 256 % 256), .int .u8 ((x4.toNat : Int) % 256), .int .u8 ((x5.toNat : Int) / 16777216 % 256), .int .u8 ((x5.toNat : Int) / 65536 % 256), .int .u8 ((x5.toNat : Int) / 256 % 256), .int .u8 ((x5.toNat : Int) % 256), .int .u8 ((x6.toNat : Int) / 16777216 % 256), .int .u8 ((x6.toNat : Int) / 65536 % 256), .int .u8 ((x6.toNat : Int) / 256 % 256), .int .u8 ((x6.toNat : Int) % 256), .int .u8 ((x7.toNat : Int) / 16777216 % 256), .int .u8 ((x7.toNat : Int) / 65536 % 256), .int .u8 ((x7.toNat : Int) / 256 % 256), .int .u8 ((x7.toNat : Int) % 256)] := by
  have h1 : ∀ x : UInt32, (x.toNat : Int) / (16777216 : Int) % (256 : Int) = (((x >>> 24).toUInt8).toNat : Int) := fun x => byte_of x 24 (by omega)
  have h2 : ∀ x : UInt32, (x.toNat : Int) / (65536 : Int) % (256 : Int) = (((x >>> 16).toUInt8).toNat : Int) := fun x => byte_of x 16 (by omega)
  have h3 : ∀ x : UInt32, (x.toNat : Int) / (256 : Int) % (256 : Int) = (((x >>> 8).toUInt8).toNat : Int) := fun x => byte_of x 8 (by omega)
  have h4 : ∀ x : UInt32, (x.toNat : Int) % 256 = ((x.toUInt8).toNat : Int) := fun x => by rw [UInt32.toNat_toUInt8]; omega
  simp only [h1, h2, h3, h4]
  rfl

theorem zero_hash (w : World) : (zeroValue 94).run Tryd.prog w = .ok (.agg (hashV (zeroW 8) (List.replicate 64 0) 0).toArray) w := by kernel_rfl
theorem zero_id (w : World) : (zeroValue 35).run Tryd.prog w = .ok (.agg (bytesV (List.replicate 32 0)).toArray) w := by kernel_rfl
theorem info_hash : (Tryd.prog.info? 94).map (·.size) = some 73 := by kernel_rfl
theorem hash_one (ws : List UInt32) (rs : List UInt8) (n : Nat) : ∀ v ∈ hashV ws rs n, v.oneCell' = true := by
  intro v hv
  unfold hashV at hv
  rcases List.mem_append.1 hv with h | h
  · exact wordsV_one _ v h
  · rcases List.mem_append.1 h with h | h
    · exact bytesV_one _ v h
    · simp only [List.mem_singleton] at h; subst h; rfl

theorem own_notIn {w : World} {base g n c : Nat} {a : Option Addr} {l : List UInt8} (h : Own w base (.slice a n c) l) (hg : g < base) : NotInSh a g := by
  intro x hx
  obtain ⟨_, h2⟩ := h
  rcases h2 with ⟨h3, _⟩ | ⟨g', cap, cur, h3, _, h4, _⟩
  · simp only [Value.slice.injEq] at h3; rw [h3.1] at hx; cases hx
  · simp only [Value.slice.injEq] at h3; rw [h3.1] at hx; simp only [Option.some.injEq] at hx; subst hx; show g' ≠ g; omega

theorem set32 (x0 x1 x2 x3 x4 x5 x6 x7 : UInt32) (gi : Nat) (w : World) (hr : RowAt w gi 35 (bytesV (List.replicate 32 0))) :
    RowAt ((((((((((((((((((((((((((((((((w.setCell ⟨gi, 0, none⟩ (.int .u8 ((x0.toNat : Int) / 16777216 % 256))).setCell ⟨gi, 1, none⟩ (.int .u8 ((x0.toNat : Int) / 65536 % 256))).setCell ⟨gi, 2, none⟩ (.int .u8 ((x0.toNat : Int) / 256 % 256))).setCell ⟨gi, 3, none⟩ (.int .u8 ((x0.toNat : Int) % 256))).setCell ⟨gi, 4, none⟩ (.int .u8 ((x1.toNat : Int) / 16777216 % 256))).setCell ⟨gi, 5, none⟩ (.int .u8 ((x1.toNat : Int) / 65536 % 256))).setCell ⟨gi, 6, none⟩ (.int .u8 ((x1.toNat : Int) / 256 % 256))).setCell ⟨gi, 7, none⟩ (.int .u8 ((x1.toNat : Int) % 256))).setCell ⟨gi, 8, none⟩ (.int .u8 ((x2.toNat : Int) / 16777216 % 256))).setCell ⟨gi, 9, none⟩ (.int .u8 ((x2.toNat : Int) / 65536 % 256))).setCell ⟨gi, 10, none⟩ (.int .u8 ((x2.toNat : Int) / 256 % 256))).setCell ⟨gi, 11, none⟩ (.int .u8 ((x2.toNat : Int) % 256))).setCell ⟨gi, 12, none⟩ (.int .u8 ((x3.toNat : Int) / 16777216 % 256))).setCell ⟨gi, 13, none⟩ (.int .u8 ((x3.toNat : Int) / 65536 % 256))).setCell ⟨gi, 14, none⟩ (.int .u8 ((x3.toNat : Int) / 256 % 256))).setCell ⟨gi, 15, none⟩ (.int .u8 ((x3.toNat : Int) % 256))).setCell ⟨gi, 16, none⟩ (.int .u8 ((x4.toNat : Int) / 16777216 % 256))).setCell ⟨gi, 17, none⟩ (.int .u8 ((x4.toNat : Int) / 65536 % 256))).setCell ⟨gi, 18, none⟩ (.int .u8 ((x4.toNat : Int) / 256 % 256))).setCell ⟨gi, 19, none⟩ (.int .u8 ((x4.toNat : Int) % 256))).setCell ⟨gi, 20, none⟩ (.int .u8 ((x5.toNat : Int) / 16777216 % 256))).setCell ⟨gi, 21, none⟩ (.int .u8 ((x5.toNat : Int) / 65536 % 256))).setCell ⟨gi, 22, none⟩ (.int .u8 ((x5.toNat : Int) / 256 % 256))).setCell ⟨gi, 23, none⟩ (.int .u8 ((x5.toNat : Int) % 256))).setCell ⟨gi, 24, none⟩ (.int .u8 ((x6.toNat : Int) / 16777216 % 256))).setCell ⟨gi, 25, none⟩ (.int .u8 ((x6.toNat : Int) / 65536 % 256))).setCell ⟨gi, 26, none⟩ (.int .u8 ((x6.toNat : Int) / 256 % 256))).setCell ⟨gi, 27, none⟩ (.int .u8 ((x6.toNat : Int) % 256))).setCell ⟨gi, 28, none⟩ (.int .u8 ((x7.toNat : Int) / 16777216 % 256))).setCell ⟨gi, 29, none⟩ (.int .u8 ((x7.toNat : Int) / 65536 % 256))).setCell ⟨gi, 30, none⟩ (.int .u8 ((x7.toNat : Int) / 256 % 256))).setCell ⟨gi, 31, none⟩ (.int .u8 ((x7.toNat : Int) % 256))) gi 35 (bytesV (idOf [x0, x1, x2, x3, x4, x5, x6, x7])) := by
  rw [id_form]
  rw [show bytesV (List.replicate 32 0) = [.int .u8 0, .int .u8 0, .int .u8 0, .int .u8 0, .int .u8 0, .int .u8 0, .int .u8 0, .int .u8 0, .int .u8 0, .int .u8 0, .int .u8 0, .int .u8 0, .int .u8 0, .int .u8 0, .int .u8 0, .int .u8 0, .int .u8 0, .int .u8 0, .int .u8 0, .int .u8 0, .int .u8 0, .int .u8 0, .int .u8 0, .int .u8 0, .int .u8 0, .int .u8 0, .int .u8 0, .int .u8 0, .int .u8 0, .int .u8 0, .int .u8 0, .int .u8 0] from rfl] at hr
  have h := ((((((((((((((((((((((((((((((((hr.set 0 (.int .u8 ((x0.toNat : Int) / 16777216 % 256))).set 1 (.int .u8 ((x0.toNat : Int) / 65536 % 256))).set 2 (.int .u8 ((x0.toNat : Int) / 256 % 256))).set 3 (.int .u8 ((x0.toNat : Int) % 256))).set 4 (.int .u8 ((x1.toNat : Int) / 16777216 % 256))).set 5 (.int .u8 ((x1.toNat : Int) / 65536 % 256))).set 6 (.int .u8 ((x1.toNat : Int) / 256 % 256))).set 7 (.int .u8 ((x1.toNat : Int) % 256))).set 8 (.int .u8 ((x2.toNat : Int) / 16777216 % 256))).set 9 (.int .u8 ((x2.toNat : Int) / 65536 % 256))).set 10 (.int .u8 ((x2.toNat : Int) / 256 % 256))).set 11 (.int .u8 ((x2.toNat : Int) % 256))).set 12 (.int .u8 ((x3.toNat : Int) / 16777216 % 256))).set 13 (.int .u8 ((x3.toNat : Int) / 65536 % 256))).set 14 (.int .u8 ((x3.toNat : Int) / 256 % 256))).set 15 (.int .u8 ((x3.toNat : Int) % 256))).set 16 (.int .u8 ((x4.toNat : Int) / 16777216 % 256))).set 17 (.int .u8 ((x4.toNat : Int) / 65536 % 256))).set 18 (.int .u8 ((x4.toNat : Int) / 256 % 256))).set 19 (.int .u8 ((x4.toNat : Int) % 256))).set 20 (.int .u8 ((x5.toNat : Int) / 16777216 % 256))).set 21 (.int .u8 ((x5.toNat : Int) / 65536 % 256))).set 22 (.int .u8 ((x5.toNat : Int) / 256 % 256))).set 23 (.int .u8 ((x5.toNat : Int) % 256))).set 24 (.int .u8 ((x6.toNat : Int) / 16777216 % 256))).set 25 (.int .u8 ((x6.toNat : Int) / 65536 % 256))).set 26 (.int .u8 ((x6.toNat : Int) / 256 % 256))).set 27 (.int .u8 ((x6.toNat : Int) % 256))).set 28 (.int .u8 ((x7.toNat : Int) / 16777216 % 256))).set 29 (.int .u8 ((x7.toNat : Int) / 65536 % 256))).set 30 (.int .u8 ((x7.toNat : Int) / 256 % 256))).set 31 (.int .u8 ((x7.toNat : Int) % 256)))
  simp only [List.set_cons_zero, List.set_cons_succ] at h
  exact h
theorem other32 (x0 x1 x2 x3 x4 x5 x6 x7 : UInt32) (gi gr : Nat) (t : TypeId) (cs : List Value) (hne : gr ≠ gi) (w : World) (hr : RowAt w gr t cs) : RowAt ((((((((((((((((((((((((((((((((w.setCell ⟨gi, 0, none⟩ (.int .u8 ((x0.toNat : Int) / 16777216 % 256))).setCell ⟨gi, 1, none⟩ (.int .u8 ((x0.toNat : Int) / 65536 % 256))).setCell ⟨gi, 2, none⟩ (.int .u8 ((x0.toNat : Int) / 256 % 256))).setCell ⟨gi, 3, none⟩ (.int .u8 ((x0.toNat : Int) % 256))).setCell ⟨gi, 4, none⟩ (.int .u8 ((x1.toNat : Int) / 16777216 % 256))).setCell ⟨gi, 5, none⟩ (.int .u8 ((x1.toNat : Int) / 65536 % 256))).setCell ⟨gi, 6, none⟩ (.int .u8 ((x1.toNat : Int) / 256 % 256))).setCell ⟨gi, 7, none⟩ (.int .u8 ((x1.toNat : Int) % 256))).setCell ⟨gi, 8, none⟩ (.int .u8 ((x2.toNat : Int) / 16777216 % 256))).setCell ⟨gi, 9, none⟩ (.int .u8 ((x2.toNat : Int) / 65536 % 256))).setCell ⟨gi, 10, none⟩ (.int .u8 ((x2.toNat : Int) / 256 % 256))).setCell ⟨gi, 11, none⟩ (.int .u8 ((x2.toNat : Int) % 256))).setCell ⟨gi, 12, none⟩ (.int .u8 ((x3.toNat : Int) / 16777216 % 256))).setCell ⟨gi, 13, none⟩ (.int .u8 ((x3.toNat : Int) / 65536 % 256))).setCell ⟨gi, 14, none⟩ (.int .u8 ((x3.toNat : Int) / 256 % 256))).setCell ⟨gi, 15, none⟩ (.int .u8 ((x3.toNat : Int) % 256))).setCell ⟨gi, 16, none⟩ (.int .u8 ((x4.toNat : Int) / 16777216 % 256))).setCell ⟨gi, 17, none⟩ (.int .u8 ((x4.toNat : Int) / 65536 % 256))).setCell ⟨gi, 18, none⟩ (.int .u8 ((x4.toNat : Int) / 256 % 256))).setCell ⟨gi, 19, none⟩ (.int .u8 ((x4.toNat : Int) % 256))).setCell ⟨gi, 20, none⟩ (.int .u8 ((x5.toNat : Int) / 16777216 % 256))).setCell ⟨gi, 21, none⟩ (.int .u8 ((x5.toNat : Int) / 65536 % 256))).setCell ⟨gi, 22, none⟩ (.int .u8 ((x5.toNat : Int) / 256 % 256))).setCell ⟨gi, 23, none⟩ (.int .u8 ((x5.toNat : Int) % 256))).setCell ⟨gi, 24, none⟩ (.int .u8 ((x6.toNat : Int) / 16777216 % 256))).setCell ⟨gi, 25, none⟩ (.int .u8 ((x6.toNat : Int) / 65536 % 256))).setCell ⟨gi, 26, none⟩ (.int .u8 ((x6.toNat : Int) / 256 % 256))).setCell ⟨gi, 27, none⟩ (.int .u8 ((x6.toNat : Int) % 256))).setCell ⟨gi, 28, none⟩ (.int .u8 ((x7.toNat : Int) / 16777216 % 256))).setCell ⟨gi, 29, none⟩ (.int .u8 ((x7.toNat : Int) / 65536 % 256))).setCell ⟨gi, 30, none⟩ (.int .u8 ((x7.toNat : Int) / 256 % 256))).setCell ⟨gi, 31, none⟩ (.int .u8 ((x7.toNat : Int) % 256))) gr t cs := ((((((((((((((((((((((((((((((((hr.other hne _).other hne _).other hne _).other hne _).other hne _).other hne _).other hne _).other hne _).other hne _).other hne _).other hne _).other hne _).other hne _).other hne _).other hne _).other hne _).other hne _).other hne _).other hne _).other hne _).other hne _).other hne _).other hne _).other hne _).other hne _).other hne _).other hne _).other hne _).other hne _).other hne _).other hne _).other hne _)
theorem below32 (x0 x1 x2 x3 x4 x5 x6 x7 : UInt32) (gi base : Nat) (w0 w : World) (hb : Below base w0 w) (hbg : base ≤ gi) : Below base w0 ((((((((((((((((((((((((((((((((w.setCell ⟨gi, 0, none⟩ (.int .u8 ((x0.toNat : Int) / 16777216 % 256))).setCell ⟨gi, 1, none⟩ (.int .u8 ((x0.toNat : Int) / 65536 % 256))).setCell ⟨gi, 2, none⟩ (.int .u8 ((x0.toNat : Int) / 256 % 256))).setCell ⟨gi, 3, none⟩ (.int .u8 ((x0.toNat : Int) % 256))).setCell ⟨gi, 4, none⟩ (.int .u8 ((x1.toNat : Int) / 16777216 % 256))).setCell ⟨gi, 5, none⟩ (.int .u8 ((x1.toNat : Int) / 65536 % 256))).setCell ⟨gi, 6, none⟩ (.int .u8 ((x1.toNat : Int) / 256 % 256))).setCell ⟨gi, 7, none⟩ (.int .u8 ((x1.toNat : Int) % 256))).setCell ⟨gi, 8, none⟩ (.int .u8 ((x2.toNat : Int) / 16777216 % 256))).setCell ⟨gi, 9, none⟩ (.int .u8 ((x2.toNat : Int) / 65536 % 256))).setCell ⟨gi, 10, none⟩ (.int .u8 ((x2.toNat : Int) / 256 % 256))).setCell ⟨gi, 11, none⟩ (.int .u8 ((x2.toNat : Int) % 256))).setCell ⟨gi, 12, none⟩ (.int .u8 ((x3.toNat : Int) / 16777216 % 256))).setCell ⟨gi, 13, none⟩ (.int .u8 ((x3.toNat : Int) / 65536 % 256))).setCell ⟨gi, 14, none⟩ (.int .u8 ((x3.toNat : Int) / 256 % 256))).setCell ⟨gi, 15, none⟩ (.int .u8 ((x3.toNat : Int) % 256))).setCell ⟨gi, 16, none⟩ (.int .u8 ((x4.toNat : Int) / 16777216 % 256))).setCell ⟨gi, 17, none⟩ (.int .u8 ((x4.toNat : Int) / 65536 % 256))).setCell ⟨gi, 18, none⟩ (.int .u8 ((x4.toNat : Int) / 256 % 256))).setCell ⟨gi, 19, none⟩ (.int .u8 ((x4.toNat : Int) % 256))).setCell ⟨gi, 20, none⟩ (.int .u8 ((x5.toNat : Int) / 16777216 % 256))).setCell ⟨gi, 21, none⟩ (.int .u8 ((x5.toNat : Int) / 65536 % 256))).setCell ⟨gi, 22, none⟩ (.int .u8 ((x5.toNat : Int) / 256 % 256))).setCell ⟨gi, 23, none⟩ (.int .u8 ((x5.toNat : Int) % 256))).setCell ⟨gi, 24, none⟩ (.int .u8 ((x6.toNat : Int) / 16777216 % 256))).setCell ⟨gi, 25, none⟩ (.int .u8 ((x6.toNat : Int) / 65536 % 256))).setCell ⟨gi, 26, none⟩ (.int .u8 ((x6.toNat : Int) / 256 % 256))).setCell ⟨gi, 27, none⟩ (.int .u8 ((x6.toNat : Int) % 256))).setCell ⟨gi, 28, none⟩ (.int .u8 ((x7.toNat : Int) / 16777216 % 256))).setCell ⟨gi, 29, none⟩ (.int .u8 ((x7.toNat : Int) / 65536 % 256))).setCell ⟨gi, 30, none⟩ (.int .u8 ((x7.toNat : Int) / 256 % 256))).setCell ⟨gi, 31, none⟩ (.int .u8 ((x7.toNat : Int) % 256))) := (Below.setCell (Below.setCell (Below.setCell (Below.setCell (Below.setCell (Below.setCell (Below.setCell (Below.setCell (Below.setCell (Below.setCell (Below.setCell (Below.setCell (Below.setCell (Below.setCell (Below.setCell (Below.setCell (Below.setCell (Below.setCell (Below.setCell (Below.setCell (Below.setCell (Below.setCell (Below.setCell (Below.setCell (Below.setCell (Below.setCell (Below.setCell (Below.setCell (Below.setCell (Below.setCell (Below.setCell (Below.setCell hb hbg _) hbg _) hbg _) hbg _) hbg _) hbg _) hbg _) hbg _) hbg _) hbg _) hbg _) hbg _) hbg _) hbg _) hbg _) hbg _) hbg _) hbg _) hbg _) hbg _) hbg _) hbg _) hbg _) hbg _) hbg _) hbg _) hbg _) hbg _) hbg _) hbg _) hbg _) hbg _)

end Go.Proofs.YtcnhifkpflaibaaDoor

namespace Go.Proofs.YtcnhifkpflaibaaDoor
open Go.RowKit

set_option maxRecDepth 100000 in
set_option maxHeartbeats 1000000 in
theorem hsum_any (g : Nat) (l : List UInt8) (w : World) (hh : HashOf w g l) (ht : Tables w) (hg2 : 2 ≤ g) (hl : l.length ≤ 100000000000000) :
    Calls Tryd.prog 29 #[.pointer (some ⟨g, 0, none⟩)] w fun e w' => e = .returned (.agg (bytesV (sumF l)).toArray) ∧ Below w.heap.size w w' := by
  have hend : (endF l.length).length ≤ 128 := by
    have : zerosF l.length < 64 := by unfold zerosF; split <;> omega
    unfold endF lenB; simp; omega
  obtain ⟨x0, x1, x2, x3, x4, x5, x6, x7, hx⟩ : ∃ x0 x1 x2 x3 x4 x5 x6 x7, stF (padF l) ((padF l).length / 64) = [x0, x1, x2, x3, x4, x5, x6, x7] := by
    have := stF_length (padF l) ((padF l).length / 64)
    match stF (padF l) ((padF l).length / 64), this with
    | [x0, x1, x2, x3, x4, x5, x6, x7], _ => exact ⟨_, _, _, _, _, _, _, _, rfl⟩
  have HID := Lib.hid (id_form x0 x1 x2 x3 x4 x5 x6 x7)
  have HS := Lib.hid (show sumF l = idOf [x0, x1, x2, x3, x4, x5, x6, x7] by unfold sumF; rw [hx])
  have HX := Lib.hid hx
  have HEND := Lib.hid hend
  have HL := Lib.hid hl
  have HG := Lib.hid hg2
  obtain ⟨rs, hrs, htk, hrow⟩ := hh
  have HRS := Lib.hid hrs
  have HTK := Lib.hid htk
  obtain ⟨ws, hws⟩ : ∃ ws, ws = stF l (l.length / 64) := ⟨_, rfl⟩
  rw [← hws] at hrow
  have HWS := Lib.hid hws
  have hwl := Lib.hid (show ws.length = 8 by rw [hws, stF_length])
  obtain ⟨L, hL⟩ : ∃ L, L = l.length := ⟨_, rfl⟩
  rw [← hL] at hrow
  have HLL := Lib.hid hL
  have hlen := Lib.hid (hash_length ws rs L hwl.out hrs)
  clear hx hend hl hg2 hrs htk hws hL
  have hT := Lib.hid ht
  clear ht
  go_enter Tryd.func29, Tryd.ntmps29
  go_wp2_with (first
    | ((with_reducible show wpList _ _ _ (⟨some 2, _, _, _, _, _⟩ :: _) _ _); go_must (refine alloc_row rfl 35 (bytesV (List.replicate 32 0)) rfl zero_id ?_); intro w1 hr1 hbel1 hsz1; have HS1 := Lib.hid hsz1; clear hsz1; have hrow1 := hrow.below hbel1)
    | ((with_reducible show wpList _ _ _ (⟨some 12, _, _, _, _, _⟩ :: _) _ _); go_must (refine load_row rfl 94 (.tmp 11) rfl g 94 (hashV ws rs L) _ rfl hrow1 Tryd.underlying94 rfl (by rw [hlen.out]; exact info_hash) ?_))
    | ((with_reducible show wpList _ _ _ (⟨some 3, _, _, _, _, _⟩ :: _) _ _); go_must (refine alloc_row rfl 94 (hashV (zeroW 8) (List.replicate 64 0) 0) rfl zero_hash ?_); intro w2 hr2 hbel2 hsz2; have HS2 := Lib.hid hsz2; clear hsz2)
    | ((with_reducible show wpList _ _ _ (⟨none, .store 94 _ _, _, _, _, _⟩ :: _) _ _); go_must (refine store_row rfl 94 (.tmp 3) (.tmp 12) rfl w1.heap.size 94 (hashV (zeroW 8) (List.replicate 64 0) 0) (hashV ws rs L) rfl rfl hr2 (by rw [hlen.out]; rfl) (by rw [hlen.out]; exact info_hash) (hash_one _ _ _) ?_); intro w3 hr3 hgr3 hsz3; have HS3 := Lib.hid hsz3; clear hsz3; have hlt1 := hrow.lt; have hrow3 := (hrow1.below hbel2).grown hgr3 (by simp; have := HS1.out; omega); have hcl3 : w3.cell? ⟨g, 72, none⟩ = some (.int .i64 (L : Int)) := hrow3.cell 72 (hash72 ws rs L hwl.out HRS.out))
    | (go_at_call 52; go_must (refine (ending_any L _ (by have := HL.out; have := HLL.out; omega)).mono ?_); rintro e w4 ⟨a, n, c, rfl, hown4, hbel4⟩; have HBA := Lib.hid (Below.trans (hbel1.trans (hbel2.mono (by have := HS1.out; omega))) ((Below.refl _ _).mono (Nat.le_refl _))); have HBB := Lib.hid (((hbel1.trans (hbel2.mono (by have := HS1.out; omega))).grown hgr3 (by have := HS2.out; have := HS1.out; omega) (fun k hk => by simp at hk; have := HS1.out; omega)).trans (hbel4.mono (by have := HS3.out; have := HS2.out; have := HS1.out; omega))); have HH4 := Lib.hid (show HashOf w4 w1.heap.size l from ⟨rs, HRS.out, HTK.out, by rw [← HWS.out, ← HLL.out]; exact hr3.below hbel4⟩); have HNI := Lib.hid (own_notIn (g := w1.heap.size) hown4 (by have := HS3.out; have := HS2.out; omega)))
    | (go_at_call 28; go_must (refine (write_any w1.heap.size l a n c (endF L) w4 HH4.out (hT.out.below HBB.out) (by have := hT.out.round.lt; have := HS1.out; omega) hown4.isBytes HNI.out (by have := HEND.out; have := HL.out; rw [HLL.out]; omega)).mono ?_); rintro e w5 ⟨rfl, hH5, hgr5⟩; obtain ⟨rs5, h51, h52, hr5⟩ := hH5; rw [HLL.out] at hr5; rw [show l ++ endF l.length = padF l from rfl, HX.out] at hr5; clear h52; have HR51 := Lib.hid h51; clear h51)
    | ((with_reducible show wpList _ _ _ (⟨some 4, _, _, _, _, _⟩ :: _) _ _); go_must (refine alloc_row rfl 35 (bytesV (List.replicate 32 0)) rfl zero_id ?_); intro w6 hr6 hbel6 hsz6; have HS6 := Lib.hid hsz6; clear hsz6; have hrg6 := (hr5.below hbel6).range (l := []) (show hashV [x0, x1, x2, x3, x4, x5, x6, x7] rs5 _ = [] ++ (wordsV [x0, x1, x2, x3, x4, x5, x6, x7] ++ _) from rfl))
    | ((with_reducible show wpList _ _ _ (⟨some 20, _, _, _, _, _⟩ :: _) _ _); go_must (refine load_part rfl 91 (.tmp 19) rfl w1.heap.size 0 (wordsV [x0, x1, x2, x3, x4, x5, x6, x7]) _ rfl hrg6 Tryd.underlying91 rfl info_8w ?_)))
  have hz1 := HS1.out
  have hz2 := HS2.out
  have hz3 := HS3.out
  have hz6 := HS6.out
  have hl4 := hbel4.size
  have hl5 := hgr5.size
  have hB5 : Below w.heap.size w w5 := HBB.out.grown hgr5 (by omega) (fun k hk => by simp at hk; omega)
  have hB6 : Below w.heap.size w w6 := hB5.trans (hbel6.mono (by omega))
  have e1 : RowAt w6 w.heap.size 35 (bytesV (List.replicate 32 0)) := (((((hr1.below hbel2).grown hgr3 (by simp; omega)).below hbel4).grown hgr5 (by simp; omega)).below hbel6)
  have n1 : w.heap.size ≠ w5.heap.size := by omega
  have l1 : w.heap.size ≤ w5.heap.size := by omega
  have hc : ∀ j, j < 32 → w6.cell? ⟨w5.heap.size, j, none⟩ = some (.int .u8 0) := fun j hj => hr6.cell j (by
    unfold bytesV
    rw [List.getElem?_map, List.getElem?_replicate, if_pos hj]
    rfl)
  have hz : ∀ j, w6.frozen? ⟨w5.heap.size, j, none⟩ = false := fun j => hr6.free j
  have i0 : ∀ w, (Instr.index 91 (.agg (wordsV [x0, x1, x2, x3, x4, x5, x6, x7]).toArray) (.int .i64 0)).run Tryd.prog w = .ok (.int .u32 (x0.toNat : Int)) w := fun _ => by kernel_rfl
  have i1 : ∀ w, (Instr.index 91 (.agg (wordsV [x0, x1, x2, x3, x4, x5, x6, x7]).toArray) (.int .i64 1)).run Tryd.prog w = .ok (.int .u32 (x1.toNat : Int)) w := fun _ => by kernel_rfl
  have i2 : ∀ w, (Instr.index 91 (.agg (wordsV [x0, x1, x2, x3, x4, x5, x6, x7]).toArray) (.int .i64 2)).run Tryd.prog w = .ok (.int .u32 (x2.toNat : Int)) w := fun _ => by kernel_rfl
  have i3 : ∀ w, (Instr.index 91 (.agg (wordsV [x0, x1, x2, x3, x4, x5, x6, x7]).toArray) (.int .i64 3)).run Tryd.prog w = .ok (.int .u32 (x3.toNat : Int)) w := fun _ => by kernel_rfl
  have i4 : ∀ w, (Instr.index 91 (.agg (wordsV [x0, x1, x2, x3, x4, x5, x6, x7]).toArray) (.int .i64 4)).run Tryd.prog w = .ok (.int .u32 (x4.toNat : Int)) w := fun _ => by kernel_rfl
  have i5 : ∀ w, (Instr.index 91 (.agg (wordsV [x0, x1, x2, x3, x4, x5, x6, x7]).toArray) (.int .i64 5)).run Tryd.prog w = .ok (.int .u32 (x5.toNat : Int)) w := fun _ => by kernel_rfl
  have i6 : ∀ w, (Instr.index 91 (.agg (wordsV [x0, x1, x2, x3, x4, x5, x6, x7]).toArray) (.int .i64 6)).run Tryd.prog w = .ok (.int .u32 (x6.toNat : Int)) w := fun _ => by kernel_rfl
  have i7 : ∀ w, (Instr.index 91 (.agg (wordsV [x0, x1, x2, x3, x4, x5, x6, x7]).toArray) (.int .i64 7)).run Tryd.prog w = .ok (.int .u32 (x7.toNat : Int)) w := fun _ => by kernel_rfl
  clear hB5 hl4 hl5 hz1 hz2 hz3 hz6 hrow hrow1 hr1 hbel1 hr2 hbel2 hr3 hgr3 hrow3 hcl3 hown4 hbel4 hgr5 hr5 hbel6 hrg6 hlt1
  refine wp_loop_rounds 9 ?_
  iterate 8
    rw [rounds_succ]
    go_wp2
  have hR := set32 x0 x1 x2 x3 x4 x5 x6 x7 w5.heap.size w6 hr6
  have hO := other32 x0 x1 x2 x3 x4 x5 x6 x7 w5.heap.size w.heap.size _ _ n1 w6 e1
  have hB := below32 x0 x1 x2 x3 x4 x5 x6 x7 w5.heap.size w.heap.size w w6 hB6 l1
  clear hc hz hr6 e1 hB6
  generalize ((((((((((((((((((((((((((((((((w6.setCell ⟨w5.heap.size, 0, none⟩ (.int .u8 ((x0.toNat : Int) / 16777216 % 256))).setCell ⟨w5.heap.size, 1, none⟩ (.int .u8 ((x0.toNat : Int) / 65536 % 256))).setCell ⟨w5.heap.size, 2, none⟩ (.int .u8 ((x0.toNat : Int) / 256 % 256))).setCell ⟨w5.heap.size, 3, none⟩ (.int .u8 ((x0.toNat : Int) % 256))).setCell ⟨w5.heap.size, 4, none⟩ (.int .u8 ((x1.toNat : Int) / 16777216 % 256))).setCell ⟨w5.heap.size, 5, none⟩ (.int .u8 ((x1.toNat : Int) / 65536 % 256))).setCell ⟨w5.heap.size, 6, none⟩ (.int .u8 ((x1.toNat : Int) / 256 % 256))).setCell ⟨w5.heap.size, 7, none⟩ (.int .u8 ((x1.toNat : Int) % 256))).setCell ⟨w5.heap.size, 8, none⟩ (.int .u8 ((x2.toNat : Int) / 16777216 % 256))).setCell ⟨w5.heap.size, 9, none⟩ (.int .u8 ((x2.toNat : Int) / 65536 % 256))).setCell ⟨w5.heap.size, 10, none⟩ (.int .u8 ((x2.toNat : Int) / 256 % 256))).setCell ⟨w5.heap.size, 11, none⟩ (.int .u8 ((x2.toNat : Int) % 256))).setCell ⟨w5.heap.size, 12, none⟩ (.int .u8 ((x3.toNat : Int) / 16777216 % 256))).setCell ⟨w5.heap.size, 13, none⟩ (.int .u8 ((x3.toNat : Int) / 65536 % 256))).setCell ⟨w5.heap.size, 14, none⟩ (.int .u8 ((x3.toNat : Int) / 256 % 256))).setCell ⟨w5.heap.size, 15, none⟩ (.int .u8 ((x3.toNat : Int) % 256))).setCell ⟨w5.heap.size, 16, none⟩ (.int .u8 ((x4.toNat : Int) / 16777216 % 256))).setCell ⟨w5.heap.size, 17, none⟩ (.int .u8 ((x4.toNat : Int) / 65536 % 256))).setCell ⟨w5.heap.size, 18, none⟩ (.int .u8 ((x4.toNat : Int) / 256 % 256))).setCell ⟨w5.heap.size, 19, none⟩ (.int .u8 ((x4.toNat : Int) % 256))).setCell ⟨w5.heap.size, 20, none⟩ (.int .u8 ((x5.toNat : Int) / 16777216 % 256))).setCell ⟨w5.heap.size, 21, none⟩ (.int .u8 ((x5.toNat : Int) / 65536 % 256))).setCell ⟨w5.heap.size, 22, none⟩ (.int .u8 ((x5.toNat : Int) / 256 % 256))).setCell ⟨w5.heap.size, 23, none⟩ (.int .u8 ((x5.toNat : Int) % 256))).setCell ⟨w5.heap.size, 24, none⟩ (.int .u8 ((x6.toNat : Int) / 16777216 % 256))).setCell ⟨w5.heap.size, 25, none⟩ (.int .u8 ((x6.toNat : Int) / 65536 % 256))).setCell ⟨w5.heap.size, 26, none⟩ (.int .u8 ((x6.toNat : Int) / 256 % 256))).setCell ⟨w5.heap.size, 27, none⟩ (.int .u8 ((x6.toNat : Int) % 256))).setCell ⟨w5.heap.size, 28, none⟩ (.int .u8 ((x7.toNat : Int) / 16777216 % 256))).setCell ⟨w5.heap.size, 29, none⟩ (.int .u8 ((x7.toNat : Int) / 65536 % 256))).setCell ⟨w5.heap.size, 30, none⟩ (.int .u8 ((x7.toNat : Int) / 256 % 256))).setCell ⟨w5.heap.size, 31, none⟩ (.int .u8 ((x7.toNat : Int) % 256))) = W at hR hO hB ⊢
  rw [rounds_succ]
  go_wp2_with (first
    | ((with_reducible show wpList _ _ _ (⟨some 52, _, _, _, _, _⟩ :: _) _ _); go_must (refine load_row rfl 35 (.tmp 4) rfl w5.heap.size 35 (bytesV (idOf [x0, x1, x2, x3, x4, x5, x6, x7])) _ rfl hR Tryd.underlying35 rfl (by rw [HID.out]; exact info_id) ?_))
    | ((with_reducible show wpList _ _ _ (⟨none, .store 35 _ _, _, _, _, _⟩ :: _) _ _); go_must (refine store_row rfl 35 (.tmp 2) (.tmp 52) rfl w.heap.size 35 (bytesV (List.replicate 32 0)) (bytesV (idOf [x0, x1, x2, x3, x4, x5, x6, x7])) rfl rfl hO (by rw [HID.out]; rfl) (by rw [HID.out]; exact info_id) (bytesV_one _) ?_); intro w9 hr9 hgr9 hsz9))
  have hfin := hB.grown hgr9 hB.size (fun k hk => by simp at hk; omega)
  exact bodyPost_ret (results_row rfl _ _ w.heap.size 35 _ _ rfl hr9 Tryd.underlying35 rfl (by rw [HID.out]; exact info_id)) rfl ⟨by rw [HS.out], hfin⟩
#print axioms hsum_any
end Go.Proofs.YtcnhifkpflaibaaDoor

namespace Go.Proofs.YtcnhifkpflaibaaDoor
open Go.RowKit

/-- A slice value reads as these parts. -/
def Parts (w : World) (a : Option Addr) (n : Nat) (ps : List (List UInt8)) : Prop :=
  ps.length = n ∧ n ≤ 9223372036854775807 ∧ (n = 0 ∨ ∃ b off, a = some ⟨b, off, none⟩ ∧ ∀ j, j < n → ∃ a' n' c', w.cell? ⟨b, off + j, none⟩ = some (.slice a' n' c') ∧ Bytes w a' n' c' (ps.getD j []))

theorem Parts.below {w w' : World} {a : Option Addr} {n : Nat} {ps : List (List UInt8)} (h : Parts w a n ps) (hb : Below w.heap.size w w') : Parts w' a n ps := by
  obtain ⟨h1, h2, h3⟩ := h
  refine ⟨h1, h2, ?_⟩
  rcases h3 with h3 | ⟨b, off, ha, hc⟩
  · exact .inl h3
  · refine .inr ⟨b, off, ha, fun j hj => ?_⟩
    obtain ⟨a', n', c', hcell, hby⟩ := hc j hj
    exact ⟨a', n', c', (hb.cell (World.block_lt_of_cell? _ _ hcell)).trans hcell, hby.below hb⟩

theorem flat_takeSh (ps : List (List UInt8)) (i : Nat) (h : i < ps.length) : (ps.take (i + 1)).flatten = (ps.take i).flatten ++ ps.getD i [] := by
  rw [List.take_add_one, List.flatten_append]
  simp [List.getD, h]

theorem flat_len (ps : List (List UInt8)) (i : Nat) : (ps.take i).flatten.length ≤ ps.flatten.length := by
  have h := List.take_append_drop i ps
  have h2 : ps.flatten = (ps.take i).flatten ++ (ps.drop i).flatten := by rw [← List.flatten_append, h]
  rw [h2, List.length_append]; omega

theorem sumF_length (l : List UInt8) : (sumF l).length = 32 := by
  unfold sumF
  have h := stF_length (padF l) ((padF l).length / 64)
  match stF (padF l) ((padF l).length / 64), h with
  | [_, _, _, _, _, _, _, _], _ => rfl

theorem bytes_notIn {w : World} {a : Option Addr} {n c g : Nat} {l : List UInt8} (h : Bytes w a n c l) (hg : w.heap.size ≤ g) : n ≠ 0 → NotInSh a g := by
  intro hn
  intro x hx
  rcases h.2.2.2 with ⟨h0, _⟩ | ⟨b, off, ha, hc⟩
  · exact absurd h0 hn
  · have hb : b < w.heap.size := World.block_lt_of_cell? w ⟨b, off + 0, none⟩ (hc 0 (Nat.pos_of_ne_zero hn))
    rw [ha] at hx
    cases hx
    show b ≠ g
    omega

theorem write_zero (g : Nat) (a : Option Addr) (c : Nat) (w : World) : Calls Tryd.prog 28 #[.pointer (some ⟨g, 0, none⟩), .slice a 0 c] w fun e w' => e = .returned (.tuple #[]) ∧ w = w' := by
  go_enter Tryd.func28, Tryd.ntmps28
  go_wp2
  go_loopg [1] 0 (fun gh v1 W => gh = 0 ∧ v1 = .slice a 0 c ∧ W = w)
  case atStart => exact ⟨rfl, rfl, rfl⟩
  case round =>
    obtain ⟨rfl, rfl, rfl⟩ := hrel
    go_wp2
    go_end0
    exact ⟨rfl, rfl⟩

/-- A write, wherever the bytes lie. -/
theorem write_each (g : Nat) (l : List UInt8) (a : Option Addr) (n c : Nat) (m : List UInt8) (w : World) (hh : HashOf w g l) (ht : Tables w) (hg2 : 2 ≤ g) (hb : Bytes w a n c m) (hni : n ≠ 0 → NotInSh a g) (hl : l.length + m.length ≤ 1000000000000000) :
    Calls Tryd.prog 28 #[.pointer (some ⟨g, 0, none⟩), .slice a n c] w fun e w' => e = .returned (.tuple #[]) ∧ HashOf w' g (l ++ m) ∧ w.grownBy w' (some g) := by
  by_cases h0 : n = 0
  · subst h0
    have : m = [] := List.length_eq_zero_iff.1 hb.1
    subst this
    refine (write_zero g a c w).mono ?_
    rintro e w' ⟨h1, rfl⟩
    exact ⟨h1, by simpa using hh, ⟨rfl, rfl, rfl, Nat.le_refl _, fun _ _ _ => rfl⟩⟩
  · exact write_any g l a n c m w hh ht hg2 hb (hni h0) hl

set_option maxRecDepth 100000 in
set_option maxHeartbeats 400000 in
theorem sum_any (a : Option Addr) (n c : Nat) (ps : List (List UInt8)) (w : World) (hp : Parts w a n ps) (ht : Tables w) (hl : ps.flatten.length ≤ 100000000000000) :
    Calls Tryd.prog 13 #[.slice a n c] w fun e w' => e = .returned (.agg (bytesV (sumF ps.flatten)).toArray) ∧ Below w.heap.size w w' := by
  have HL := Lib.hid hl
  have hT := Lib.hid ht
  have hn63 := hp.2.1
  clear hl ht
  go_enter Tryd.func13, Tryd.ntmps13
  go_wp2_with (first
    | ((with_reducible show wpList _ _ _ (⟨some 2, _, _, _, _, _⟩ :: _) _ _); go_must (refine alloc_row rfl 35 (bytesV (List.replicate 32 0)) rfl zero_id ?_); intro w1 hr1 hbel1 hsz1; have HS1 := Lib.hid hsz1; clear hsz1)
    | (go_at_call 27; go_must (refine (new_anySh _ (hT.out.below hbel1)).mono ?_); rintro e w2 ⟨rfl, hh2, hbel2⟩))
  go_loopg [5, 9] n (fun gh v5 v9 W => ∃ i : Nat, gh + i = n ∧ v9 = .int .i64 i ∧ HashOf W w1.heap.size (ps.take i).flatten ∧ RowAt W w.heap.size 35 (bytesV (List.replicate 32 0)) ∧ Below w.heap.size w W)
  case atStart => exact ⟨0, rfl, rfl, by simpa using hh2, hr1.below hbel2, hbel1.trans (hbel2.mono (by have := HS1.out; omega))⟩
  case round =>
    obtain ⟨i, hg, rfl, hh, hr, hbel⟩ := hrel
    have HG := Lib.hid hg
    have hin : i ≤ n := by omega
    clear hg hh2 hr1 hbel1 hbel2
    by_cases hi : i < n
    · obtain ⟨b, off, rfl, hcells⟩ : ∃ b off, a = some ⟨b, off, none⟩ ∧ ∀ j, j < n → ∃ a' n' c', w.cell? ⟨b, off + j, none⟩ = some (.slice a' n' c') ∧ Bytes w a' n' c' (ps.getD j []) := by
        rcases hp.2.2 with h | h
        · omega
        · exact h
      obtain ⟨a', n', c', hcl0, hby0⟩ := hcells i hi
      have hcl : wr.cell? ⟨b, off + i, none⟩ = some (.slice a' n' c') := (hbel.cell (World.block_lt_of_cell? _ _ hcl0)).trans hcl0
      have HBY := Lib.hid (hby0.below hbel)
      have HNI := Lib.hid (bytes_notIn (g := w1.heap.size) hby0 (by have := HS1.out; omega))
      have hfl := flat_takeSh ps i (by rw [hp.1]; exact hi)
      have HLE := Lib.hid (show (ps.take i).flatten.length + (ps.getD i []).length ≤ 1000000000000000 by
        have h1 := flat_len ps (i + 1)
        rw [hfl, List.length_append] at h1
        have := HL.out
        omega)
      have HFL := Lib.hid hfl
      clear hcells hcl0 hby0 hfl hp
      go_wp2_with (go_at_call 28; go_must (refine (write_each w1.heap.size (ps.take i).flatten a' n' c' (ps.getD i []) wr hh (hT.out.below hbel) (by have := hT.out.round.lt; have := HS1.out; omega) HBY.out HNI.out HLE.out).mono ?_); rintro e w3 ⟨rfl, hh3, hgr3⟩)
      go_roundg (gk - 1)
      case measure => have := HG.out; omega
      case rel => exact ⟨i + 1, by have := HG.out; omega, by go_num, by rw [HFL.out]; exact hh3, hr.grown hgr3 (by simp; have := HS1.out; omega), hbel.grown hgr3 hbel.size (fun k hk => by simp at hk; have := HS1.out; omega)⟩
    · obtain rfl : i = n := by omega
      have hfl : (ps.take i).flatten = ps.flatten := by rw [← hp.1, List.take_length]
      rw [hfl] at hh
      clear hp hfl
      go_wp2_with (first
        | (go_at_call 29; go_must (refine (hsum_any w1.heap.size ps.flatten wr hh (hT.out.below hbel) (by have := hT.out.round.lt; have := HS1.out; omega) HL.out).mono ?_); rintro e w4 ⟨rfl, hbel4⟩; have hr4 := hr.below hbel4)
        | ((with_reducible show wpList _ _ _ (⟨none, .store 35 _ _, _, _, _, _⟩ :: _) _ _); go_must (refine store_row rfl 35 (.tmp 2) (.tmp 18) rfl w.heap.size 35 (bytesV (List.replicate 32 0)) (bytesV (sumF ps.flatten)) rfl rfl hr4 (by rw [bytesV_length, bytesV_length, sumF_length]; rfl) (by rw [bytesV_length, sumF_length]; exact info_id) (bytesV_one _) ?_); intro w9 hr9 hgr9 hsz9))
      have hfin := (hbel.trans (hbel4.mono hbel.size)).grown hgr9 (by have := hbel.size; have := hbel4.size; omega) (fun k hk => by simp at hk; omega)
      exact bodyPost_ret (results_row rfl _ _ w.heap.size 35 _ _ rfl hr9 Tryd.underlying35 rfl (by rw [bytesV_length, sumF_length]; exact info_id)) rfl ⟨rfl, hfin⟩
#print axioms sum_any
end Go.Proofs.YtcnhifkpflaibaaDoor
