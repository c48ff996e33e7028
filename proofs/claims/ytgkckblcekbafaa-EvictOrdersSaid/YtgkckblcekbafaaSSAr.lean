/-
  SHA-256 over lists of Int, in the shape of the reference: no program, no memory. And its value at two messages.
-/
import Derived.Laws.BitsAllLaws
namespace Go.Proofs.Ytgkckblcekbafaa
set_option maxRecDepth 100000

/-- Exclusive or, and, or, of words. -/
abbrev xo (a b : Int) : Int := bits .xor .u32 a b
abbrev an (a b : Int) : Int := bits .and .u32 a b
abbrev oo (a b : Int) : Int := bits .or .u32 a b
/-- The sum of words. -/
def plS (a b : Int) : Int := (a + b) % 4294967296
/-- All bits changed. -/
def no (a : Int) : Int := bits .xor .u32 IntKind.u32.max a

/-- A word turned to the right by n places. -/
def ror (x : Int) (n : Nat) : Int := oo (x / 2 ^ n) (x * 2 ^ (32 - n) % 4294967296)

/-- k0 to k63. -/
def ks : List Int := [1116352408, 1899447441, 3049323471, 3921009573, 961987163, 1508970993, 2453635748, 2870763221, 3624381080, 310598401, 607225278, 1426881987, 1925078388, 2162078206, 2614888103, 3248222580, 3835390401, 4022224774, 264347078, 604807628, 770255983, 1249150122, 1555081692, 1996064986, 2554220882, 2821834349, 2952996808, 3210313671, 3336571891, 3584528711, 113926993, 338241895, 666307205, 773529912, 1294757372, 1396182291, 1695183700, 1986661051, 2177026350, 2456956037, 2730485921, 2820302411, 3259730800, 3345764771, 3516065817, 3600352804, 4094571909, 275423344, 430227734, 506948616, 659060556, 883997877, 958139571, 1322822218, 1537002063, 1747873779, 1955562222, 2024104815, 2227730452, 2361852424, 2428436474, 2756734187, 3204031479, 3329325298]

/-- A word of four bytes. -/
def word4 (a b c d : Int) : Int := oo (oo (oo (a * 16777216 % 4294967296) (b * 65536 % 4294967296)) (c * 256 % 4294967296)) d
/-- Word t of a block. -/
def word (b : List Int) (t : Nat) : Int := word4 (b.getD (4 * t) 0) (b.getD (4 * t + 1) 0) (b.getD (4 * t + 2) 0) (b.getD (4 * t + 3) 0)
/-- The first t words. -/
def words (b : List Int) : Nat → List Int
  | 0 => []
  | t + 1 => words b t ++ [word b t]
/-- The word that follows t words. -/
def follow (W : List Int) (t : Nat) : Int :=
  let x := W.getD (t - 15) 0
  let y := W.getD (t - 2) 0
  (xo (xo (ror y 17) (ror y 19)) (y / 1024) + W.getD (t - 7) 0 + xo (xo (ror x 7) (ror x 18)) (x / 8) + W.getD (t - 16) 0) % 4294967296
/-- n words more. -/
def more (W : List Int) : Nat → List Int
  | 0 => W
  | n + 1 => more W n ++ [follow (more W n) (16 + n)]
/-- One round, of eight words. -/
def rndv (a b c d e f g h k w : Int) : List Int :=
  let x := (h + xo (xo (ror e 6) (ror e 11)) (ror e 25) + xo (an e f) (an (no e) g) + k + w)
  let y := (xo (xo (ror a 2) (ror a 13)) (ror a 22) + xo (xo (an a b) (an a c)) (an b c))
  [(x + y) % 4294967296, a, b, c, (d + x) % 4294967296, e, f, g]
/-- One round. -/
def rnd (s : List Int) (k w : Int) : List Int := rndv (s.getD 0 0) (s.getD 1 0) (s.getD 2 0) (s.getD 3 0) (s.getD 4 0) (s.getD 5 0) (s.getD 6 0) (s.getD 7 0) k w
/-- t rounds. -/
def rnds (W h : List Int) : Nat → List Int
  | 0 => h
  | t + 1 => rnd (rnds W h t) (ks.getD t 0) (W.getD t 0)
/-- The first i words of the sum, then what was there. -/
def sums (h s : List Int) : Nat → List Int
  | 0 => h
  | i + 1 => (sums h s i).set i (plS (h.getD i 0) (s.getD i 0))
/-- A block of 64 bytes is added to a state. -/
def blk (h b : List Int) : List Int := sums h (rnds (more (words b 16) 48) h 64) 8
/-- The first state. -/
def h0s : List Int := [1779033703, 3144134277, 1013904242, 2773480762, 1359893119, 2600822924, 528734635, 1541459225]
/-- The state behind n blocks of a padded message. -/
def states (m : List Int) : Nat → List Int
  | 0 => h0s
  | n + 1 => blk (states m n) ((m.drop (64 * n)).take 64)
/-- The number of zeros behind the mark. -/
def zeros (n : Nat) : Nat := (119 - n % 64) % 64
/-- The length in bits, in eight bytes. -/
def lenBytes (bs : Int) : List Int := [bs / 2 ^ 56 % 256, bs / 2 ^ 48 % 256, bs / 2 ^ 40 % 256, bs / 2 ^ 32 % 256, bs / 2 ^ 24 % 256, bs / 2 ^ 16 % 256, bs / 2 ^ 8 % 256, bs / 2 ^ 0 % 256]
/-- The padded message. -/
def padded (L : List Int) : List Int := L ++ [128] ++ List.replicate (zeros L.length) 0 ++ lenBytes ((L.length : Int) * 8 % 18446744073709551616)
/-- Byte i of a digest. -/
def outByte (h : List Int) (i : Nat) : Int := h.getD (i / 4) 0 / 2 ^ (24 - i % 4 * 8) % 256
def outs (h : List Int) : Nat → List Int
  | 0 => []
  | i + 1 => outs h i ++ [outByte h i]
/-- The digest. -/
def shaL (L : List Int) : List Int := outs (states (padded L) ((padded L).length / 64)) 32

theorem zeros_ok (n : Nat) : (n + 1 + zeros n) % 64 = 56 := by unfold zeros; omega
theorem words_len (b : List Int) (t : Nat) : (words b t).length = t := by
  induction t with
  | zero => rfl
  | succ t ih => simp [words, ih]
theorem more_len (W : List Int) (n : Nat) : (more W n).length = W.length + n := by
  induction n with
  | zero => rfl
  | succ n ih => simp [more, ih]; omega
theorem rnds_len (W h : List Int) (hh : h.length = 8) (t : Nat) : (rnds W h t).length = 8 := by
  cases t <;> simp [rnds, rnd, rndv, hh]
theorem sums_len (h s : List Int) (hh : h.length = 8) (i : Nat) : (sums h s i).length = 8 := by
  induction i with
  | zero => exact hh
  | succ i ih => simp [sums, ih]
theorem blk_len (h b : List Int) (hh : h.length = 8) : (blk h b).length = 8 := sums_len _ _ hh _
theorem states_len (m : List Int) (n : Nat) : (states m n).length = 8 := by
  induction n with
  | zero => rfl
  | succ n ih => exact blk_len _ _ ih
theorem outs_len (h : List Int) (n : Nat) : (outs h n).length = n := by
  induction n with
  | zero => rfl
  | succ n ih => simp [outs, ih]
theorem ks_len : ks.length = 64 := rfl

theorem sha_empty : (shaL []).take 4 = [227, 176, 196, 66] := by decide +kernel
theorem sha_abc : (shaL [97, 98, 99]).take 4 = [186, 120, 22, 191] := by decide +kernel

end Go.Proofs.Ytgkckblcekbafaa
