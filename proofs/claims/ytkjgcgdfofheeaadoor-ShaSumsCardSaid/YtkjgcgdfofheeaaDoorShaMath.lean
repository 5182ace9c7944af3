/-
  SHA-256 in plain words of 32 bits: the rounds, the words of a block, the bytes behind the last ones. No program is named here.
-/
import Derived.WalkKit
namespace Go.Proofs.YtkjgcgdfofheeaaDoor

/-- Turned to the right. -/
def rotr (n : Nat) (x : UInt32) : UInt32 := (x >>> UInt32.ofNat n) ||| (x <<< UInt32.ofNat (32 - n))

theorem u32_xor_w (a b : UInt32) : bits .xor .u32 (a.toNat : Int) (b.toNat : Int) = ((a ^^^ b).toNat : Int) := by
  have := (u32_xor_nat a.toNat b.toNat a.toNat_lt b.toNat_lt)
  rw [this, UInt32.toNat_xor]
theorem u32_and_w (a b : UInt32) : bits .and .u32 (a.toNat : Int) (b.toNat : Int) = ((a &&& b).toNat : Int) := by
  have := (u32_and_nat a.toNat b.toNat a.toNat_lt b.toNat_lt)
  rw [this, UInt32.toNat_and]
theorem u32_or_w (a b : UInt32) : bits .or .u32 (a.toNat : Int) (b.toNat : Int) = ((a ||| b).toNat : Int) := by
  have := (u32_or_nat a.toNat b.toNat a.toNat_lt b.toNat_lt)
  rw [this, UInt32.toNat_or]
theorem u32_add_w (a b : UInt32) : IntKind.u32.wrap ((a.toNat : Int) + (b.toNat : Int)) = ((a + b).toNat : Int) := by
  rw [IntKind.wrap_u32, UInt32.toNat_add]; omega

theorem u32_add_m (a b : UInt32) : ((a.toNat : Int) + (b.toNat : Int)) % 4294967296 = ((a + b).toNat : Int) := by
  rw [UInt32.toNat_add]; omega

theorem toNat_rotr (n : Nat) (x : UInt32) (h0 : 0 < n) (h1 : n < 32) : (rotr n x).toNat = (x.toNat * 2 ^ (32 - n) % 4294967296) ||| (x.toNat / 2 ^ n) := by
  have e1 : (UInt32.ofNat n).toNat = n := by simp; omega
  have e2 : (UInt32.ofNat (32 - n)).toNat = 32 - n := by simp; omega
  unfold rotr
  rw [UInt32.toNat_or, UInt32.toNat_shiftRight, UInt32.toNat_shiftLeft, e1, e2, Nat.mod_eq_of_lt h1, Nat.mod_eq_of_lt (by omega : 32 - n < 32), Nat.or_comm, Nat.shiftLeft_eq, Nat.shiftRight_eq_div_pow]

theorem right_form (n : Nat) (x : UInt32) (h0 : 0 < n) (h1 : n < 32) : bits .or .u32 ((x.toNat : Int) * 2 ^ (32 - n) % 4294967296) ((x.toNat : Int) / 2 ^ n) = ((rotr n x).toNat : Int) := by
  have hx := x.toNat_lt
  have hd : x.toNat / 2 ^ n < 4294967296 := Nat.lt_of_le_of_lt (Nat.div_le_self _ _) hx
  have := u32_or_nat (x.toNat * 2 ^ (32 - n) % 4294967296) (x.toNat / 2 ^ n) (Nat.mod_lt _ (by omega)) hd
  rw [toNat_rotr n x h0 h1, ← this]
  congr 1

theorem rot_form (n : Nat) (x : UInt32) (h0 : 0 < n) (h1 : n < 32) : bits .or .u32 ((x.toNat : Int) / 2 ^ n) ((x.toNat : Int) * 2 ^ (32 - n) % 4294967296) = ((rotr n x).toNat : Int) := by
  have hx := x.toNat_lt
  have hd : x.toNat / 2 ^ n < 4294967296 := Nat.lt_of_le_of_lt (Nat.div_le_self _ _) hx
  have := u32_or_nat (x.toNat / 2 ^ n) (x.toNat * 2 ^ (32 - n) % 4294967296) hd (Nat.mod_lt _ (by omega))
  rw [toNat_rotr n x h0 h1, Nat.or_comm, ← this]
  congr 1

theorem neg_mask : ∀ n : Fin 32, 0 < n.val → bits .and .u64 (IntKind.u64.wrap (-(n.val : Int))) 31 = ((32 - n.val : Nat) : Int) := by decide +kernel

theorem neg_mask' (n : Nat) (h0 : 0 < n) (h1 : n < 32) : bits .and .u64 (IntKind.u64.wrap (-(n : Int))) 31 = ((32 - n : Nat) : Int) := neg_mask ⟨n, h1⟩ h0

/-- Four bytes as a word, the highest first. -/
def word4 (a b c d : UInt8) : UInt32 := (((a.toUInt32 <<< 24) ||| (b.toUInt32 <<< 16)) ||| (c.toUInt32 <<< 8)) ||| d.toUInt32

theorem sh_form (x : UInt8) (k : Nat) (hk : k < 32) : ((x.toNat : Int) % 4294967296 * (2 ^ k : Nat) % 4294967296) = (((x.toUInt32 <<< UInt32.ofNat k).toNat : Nat) : Int) := by
  have hx : x.toNat < 256 := x.toNat_lt
  have e1 : (UInt32.ofNat k).toNat = k := by simp; omega
  rw [UInt32.toNat_shiftLeft, e1, Nat.mod_eq_of_lt hk, Nat.shiftLeft_eq, UInt8.toNat_toUInt32]
  rw [show ((x.toNat : Int) % 4294967296) = x.toNat from by omega]
  simp

theorem word_form (x0 x1 x2 x3 : UInt8) :
    bits .or .u32 (bits .or .u32 (bits .or .u32 ((x0.toNat : Int) % 4294967296 * 16777216 % 4294967296) ((x1.toNat : Int) % 4294967296 * 65536 % 4294967296)) ((x2.toNat : Int) % 4294967296 * 256 % 4294967296)) ((x3.toNat : Int) % 4294967296) = ((word4 x0 x1 x2 x3).toNat : Int) := by
  have h0 := sh_form x0 24 (by omega)
  have h1 := sh_form x1 16 (by omega)
  have h2 := sh_form x2 8 (by omega)
  have h3 : ((x3.toNat : Int) % 4294967296) = ((x3.toUInt32.toNat : Nat) : Int) := by
    have hx : x3.toNat < 256 := x3.toNat_lt
    rw [UInt8.toNat_toUInt32]; omega
  simp only [Nat.reducePow] at h0 h1 h2
  rw [show (16777216 : Int) = ((16777216 : Nat) : Int) from rfl, show (65536 : Int) = ((65536 : Nat) : Int) from rfl, show (256 : Int) = ((256 : Nat) : Int) from rfl, h0, h1, h2, h3, u32_or_w, u32_or_w, u32_or_w]
  rfl

/-- A block's 16 words. -/
def first16 (b : List UInt8) : List UInt32 := (List.range 16).map fun t => word4 (b.getD (4 * t) 0) (b.getD (4 * t + 1) 0) (b.getD (4 * t + 2) 0) (b.getD (4 * t + 3) 0)

def sig0 (x : UInt32) : UInt32 := (rotr 7 x ^^^ rotr 18 x) ^^^ (x >>> 3)
def sig1 (x : UInt32) : UInt32 := (rotr 17 x ^^^ rotr 19 x) ^^^ (x >>> 10)

/-- The next word. -/
def nextW (l : List UInt32) : UInt32 := ((sig1 (l.getD (l.length - 2) 0) + l.getD (l.length - 7) 0) + sig0 (l.getD (l.length - 15) 0)) + l.getD (l.length - 16) 0

/-- The words so far. -/
def sched (b : List UInt8) : Nat → List UInt32
  | 0 => first16 b
  | n + 1 => sched b n ++ [nextW (sched b n)]

theorem sched_length (b : List UInt8) (n : Nat) : (sched b n).length = 16 + n := by
  induction n with
  | zero => simp [sched, first16]
  | succ n ih => rw [sched, List.length_append, ih]; simp; omega

theorem first16_getD (b : List UInt8) (t : Nat) (h : t < 16) : (first16 b).getD t 0 = word4 (b.getD (4 * t) 0) (b.getD (4 * t + 1) 0) (b.getD (4 * t + 2) 0) (b.getD (4 * t + 3) 0) := by
  unfold first16
  rw [List.getD_eq_getElem?_getD, List.getElem?_map, List.getElem?_range h]
  rfl

theorem take_set_one {α : Type} [Inhabited α] {m l : List α} {j : Nat} {x d : α} (h : m.take j = l.take j) (hm : j < m.length) (hl : j < l.length) (hx : x = l.getD j d) : (m.set j x).take (j + 1) = l.take (j + 1) := by
  rw [List.take_succ_eq_append_getElem (by simpa using hm), List.take_succ_eq_append_getElem hl, List.take_set_of_le (Nat.le_refl _), h]
  simp [hx, hl]

theorem take_set_app {α : Type} {m l : List α} {x : α} (h : m.take l.length = l) (hm : l.length < m.length) : (m.set l.length x).take (l.length + 1) = l ++ [x] := by
  rw [List.take_succ_eq_append_getElem (by simpa using hm), List.take_set_of_le (Nat.le_refl _), h]
  simp

theorem getD_of_take {α : Type} {m l : List α} {n i : Nat} {d : α} (h : m.take n = l) (hi : i < n) : m.getD i d = l.getD i d := by
  rw [← h, List.getD_eq_getElem?_getD, List.getD_eq_getElem?_getD, List.getElem?_take, if_pos hi]

theorem shr_form (y : UInt32) (k : Nat) (hk : k < 32) : ((y.toNat : Int) / (2 ^ k : Nat)) = (((y >>> UInt32.ofNat k).toNat : Nat) : Int) := by
  have e1 : (UInt32.ofNat k).toNat = k := by simp; omega
  rw [UInt32.toNat_shiftRight, e1, Nat.mod_eq_of_lt hk, Nat.shiftRight_eq_div_pow]
  simp
theorem sig1_form (y : UInt32) : bits .xor .u32 (bits .xor .u32 ((rotr 17 y).toNat : Int) ((rotr 19 y).toNat : Int)) ((y.toNat : Int) / 1024) = ((sig1 y).toNat : Int) := by
  have h := shr_form y 10 (by omega)
  simp only [Nat.reducePow] at h
  rw [show (1024 : Int) = ((1024 : Nat) : Int) from rfl, h, u32_xor_w, u32_xor_w]
  rfl

theorem sig0_form (y : UInt32) : bits .xor .u32 (bits .xor .u32 ((rotr 7 y).toNat : Int) ((rotr 18 y).toNat : Int)) ((y.toNat : Int) / 8) = ((sig0 y).toNat : Int) := by
  have h := shr_form y 3 (by omega)
  simp only [Nat.reducePow] at h
  rw [show (8 : Int) = ((8 : Nat) : Int) from rfl, h, u32_xor_w, u32_xor_w]
  rfl

theorem next_form (y2 y7 y15 y16 : UInt32) :
    (bits .xor .u32 (bits .xor .u32 ((rotr 17 y2).toNat : Int) ((rotr 19 y2).toNat : Int)) ((y2.toNat : Int) / 1024) + (y7.toNat : Int) + bits .xor .u32 (bits .xor .u32 ((rotr 7 y15).toNat : Int) ((rotr 18 y15).toNat : Int)) ((y15.toNat : Int) / 8) + (y16.toNat : Int)) % 4294967296
      = ((((sig1 y2 + y7) + sig0 y15) + y16).toNat : Int) := by
  rw [sig1_form, sig0_form, UInt32.toNat_add, UInt32.toNat_add, UInt32.toNat_add]
  omega
/-- The rounds' words, and the first state. -/
def roundK : List UInt32 := [0x428a2f98, 0x71374491, 0xb5c0fbcf, 0xe9b5dba5, 0x3956c25b, 0x59f111f1, 0x923f82a4, 0xab1c5ed5, 0xd807aa98, 0x12835b01, 0x243185be, 0x550c7dc3, 0x72be5d74, 0x80deb1fe, 0x9bdc06a7, 0xc19bf174, 0xe49b69c1, 0xefbe4786, 0x0fc19dc6, 0x240ca1cc, 0x2de92c6f, 0x4a7484aa, 0x5cb0a9dc, 0x76f988da, 0x983e5152, 0xa831c66d, 0xb00327c8, 0xbf597fc7, 0xc6e00bf3, 0xd5a79147, 0x06ca6351, 0x14292967, 0x27b70a85, 0x2e1b2138, 0x4d2c6dfc, 0x53380d13, 0x650a7354, 0x766a0abb, 0x81c2c92e, 0x92722c85, 0xa2bfe8a1, 0xa81a664b, 0xc24b8b70, 0xc76c51a3, 0xd192e819, 0xd6990624, 0xf40e3585, 0x106aa070, 0x19a4c116, 0x1e376c08, 0x2748774c, 0x34b0bcb5, 0x391c0cb3, 0x4ed8aa4a, 0x5b9cca4f, 0x682e6ff3, 0x748f82ee, 0x78a5636f, 0x84c87814, 0x8cc70208, 0x90befffa, 0xa4506ceb, 0xbef9a3f7, 0xc67178f2]
def firstH : List UInt32 := [0x6a09e667, 0xbb67ae85, 0x3c6ef372, 0xa54ff53a, 0x510e527f, 0x9b05688c, 0x1f83d9ab, 0x5be0cd19]

/-- The eight words of a round. -/
structure Reg where
  (a b c d e f g h : UInt32)

def bigS1 (e : UInt32) : UInt32 := (rotr 6 e ^^^ rotr 11 e) ^^^ rotr 25 e
def bigS0 (a : UInt32) : UInt32 := (rotr 2 a ^^^ rotr 13 a) ^^^ rotr 22 a
def chF (e f g : UInt32) : UInt32 := (e &&& f) ^^^ (~~~e &&& g)
def majF (a b c : UInt32) : UInt32 := ((a &&& b) ^^^ (a &&& c)) ^^^ (b &&& c)
def firstF (r : Reg) (k w : UInt32) : UInt32 := (((r.h + bigS1 r.e) + chF r.e r.f r.g) + k) + w
def stepF (k w : UInt32) (r : Reg) : Reg := ⟨(firstF r k w + bigS0 r.a) + majF r.a r.b r.c, r.a, r.b, r.c, r.d + firstF r k w, r.e, r.f, r.g⟩
def runF (W : List UInt32) : Nat → Reg → Reg
  | 0, r => r
  | n + 1, r => stepF (roundK.getD n 0) (W.getD n 0) (runF W n r)
def regOf (l : List UInt32) : Reg := ⟨l.getD 0 0, l.getD 1 0, l.getD 2 0, l.getD 3 0, l.getD 4 0, l.getD 5 0, l.getD 6 0, l.getD 7 0⟩
/-- The state behind a block. -/
def turnF (l : List UInt32) (b : List UInt8) : List UInt32 :=
  let r := runF (sched b 48) 64 (regOf l)
  [l.getD 0 0 + r.a, l.getD 1 0 + r.b, l.getD 2 0 + r.c, l.getD 3 0 + r.d, l.getD 4 0 + r.e, l.getD 5 0 + r.f, l.getD 6 0 + r.g, l.getD 7 0 + r.h]
theorem not_form (e : UInt32) : bits .xor .u32 IntKind.u32.max (e.toNat : Int) = ((~~~e).toNat : Int) := by
  have h : (0xffffffff : UInt32) ^^^ e = ~~~e := by
    apply UInt32.toBitVec_inj.1
    rw [UInt32.toBitVec_xor, UInt32.toBitVec_not]
    exact BitVec.allOnes_xor
  have h2 := u32_xor_w (0xffffffff : UInt32) e
  rw [h] at h2
  exact h2

theorem bigS1_form (e : UInt32) : bits .xor .u32 (bits .xor .u32 ((rotr 6 e).toNat : Int) ((rotr 11 e).toNat : Int)) ((rotr 25 e).toNat : Int) = ((bigS1 e).toNat : Int) := by
  rw [u32_xor_w, u32_xor_w]; rfl
theorem bigS0_form (e : UInt32) : bits .xor .u32 (bits .xor .u32 ((rotr 2 e).toNat : Int) ((rotr 13 e).toNat : Int)) ((rotr 22 e).toNat : Int) = ((bigS0 e).toNat : Int) := by
  rw [u32_xor_w, u32_xor_w]; rfl
theorem chF_form (e f g : UInt32) : bits .xor .u32 (bits .and .u32 (e.toNat : Int) (f.toNat : Int)) (bits .and .u32 (bits .xor .u32 IntKind.u32.max (e.toNat : Int)) (g.toNat : Int)) = ((chF e f g).toNat : Int) := by
  rw [not_form, u32_and_w, u32_and_w, u32_xor_w]; rfl
theorem majF_form (a b c : UInt32) : bits .xor .u32 (bits .xor .u32 (bits .and .u32 (a.toNat : Int) (b.toNat : Int)) (bits .and .u32 (a.toNat : Int) (c.toNat : Int))) (bits .and .u32 (b.toNat : Int) (c.toNat : Int)) = ((majF a b c).toNat : Int) := by
  rw [u32_and_w, u32_and_w, u32_and_w, u32_xor_w, u32_xor_w]; rfl

theorem firstF_toNat (r : Reg) (k w : UInt32) : ((firstF r k w).toNat : Int) = ((r.h.toNat : Int) + ((bigS1 r.e).toNat : Int) + ((chF r.e r.f r.g).toNat : Int) + (k.toNat : Int) + (w.toNat : Int)) % 4294967296 := by
  unfold firstF
  rw [UInt32.toNat_add, UInt32.toNat_add, UInt32.toNat_add, UInt32.toNat_add]; omega

theorem stepA_form (a b c d e f g h k w : UInt32) :
    (((h.toNat : Int) + bits .xor .u32 (bits .xor .u32 ((rotr 6 e).toNat : Int) ((rotr 11 e).toNat : Int)) ((rotr 25 e).toNat : Int) + bits .xor .u32 (bits .and .u32 (e.toNat : Int) (f.toNat : Int)) (bits .and .u32 (bits .xor .u32 IntKind.u32.max (e.toNat : Int)) (g.toNat : Int)) + (k.toNat : Int) + (w.toNat : Int)
      + bits .xor .u32 (bits .xor .u32 ((rotr 2 a).toNat : Int) ((rotr 13 a).toNat : Int)) ((rotr 22 a).toNat : Int)) % 4294967296
      + bits .xor .u32 (bits .xor .u32 (bits .and .u32 (a.toNat : Int) (b.toNat : Int)) (bits .and .u32 (a.toNat : Int) (c.toNat : Int))) (bits .and .u32 (b.toNat : Int) (c.toNat : Int))) % 4294967296
      = ((stepF k w ⟨a, b, c, d, e, f, g, h⟩).a.toNat : Int) := by
  have h1 := firstF_toNat ⟨a, b, c, d, e, f, g, h⟩ k w
  rw [bigS1_form, chF_form, bigS0_form, majF_form]
  show _ = (((firstF ⟨a, b, c, d, e, f, g, h⟩ k w + bigS0 a) + majF a b c).toNat : Int)
  rw [UInt32.toNat_add, UInt32.toNat_add]
  simp only [] at h1
  omega

theorem stepE_form (a b c d e f g h k w : UInt32) :
    ((d.toNat : Int) + ((h.toNat : Int) + bits .xor .u32 (bits .xor .u32 ((rotr 6 e).toNat : Int) ((rotr 11 e).toNat : Int)) ((rotr 25 e).toNat : Int) + bits .xor .u32 (bits .and .u32 (e.toNat : Int) (f.toNat : Int)) (bits .and .u32 (bits .xor .u32 IntKind.u32.max (e.toNat : Int)) (g.toNat : Int)) + (k.toNat : Int) + (w.toNat : Int)) % 4294967296) % 4294967296
      = ((stepF k w ⟨a, b, c, d, e, f, g, h⟩).e.toNat : Int) := by
  have h1 := firstF_toNat ⟨a, b, c, d, e, f, g, h⟩ k w
  rw [bigS1_form, chF_form]
  show _ = ((d + firstF ⟨a, b, c, d, e, f, g, h⟩ k w).toNat : Int)
  rw [UInt32.toNat_add]
  simp only [] at h1
  omega
#print axioms rot_form
end Go.Proofs.YtkjgcgdfofheeaaDoor
