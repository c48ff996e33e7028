/-
  SHA-256 over lists of Int, in the shape of the reference: no program, no memory. And its value at two messages. The contracts of the reference's turn and constants. The contract of the reference's constants. A region that draws its order: its first n operations only read or call quietly (a callee may draw), its tail comes up in one forced order behind them: one walk of the text's order serves.
  The library has it for operations that leave the very world (Derived.StillTail) and, without a tail, for a class of worlds (Derived.Deep.Quiet): here both, out of their lemmas.
-/
import Derived.Laws.BitsAllLaws
import Derived.Test.YtebnlklodokhkaaDoorProg
import Derived.WalkKit
import Derived.WalkSpells
import Derived.WalkLawsBesides
import Derived.Deep.LoopGhost
import Derived.Deep.RegionHeld3
import Derived.Lib.Hide
import Derived.Deep.WholeRow
import Derived.Deep.MidRow
import Derived.Great.BuildSlice
import Derived.KernelRfl
import Derived.StillTail
import Derived.Deep.Quiet
namespace Go.Proofs.YtebnlklodokhkaaDoor
set_option maxRecDepth 100000

/-- Exclusive or, and, or, of words. -/
abbrev xo (a b : Int) : Int := bits .xor .u32 a b
abbrev an (a b : Int) : Int := bits .and .u32 a b
abbrev oo (a b : Int) : Int := bits .or .u32 a b
/-- The sum of words. -/
def pl (a b : Int) : Int := (a + b) % 4294967296
/-- All bits changed. -/
def no (a : Int) : Int := bits .xor .u32 IntKind.u32.max a

/-- A word turned to the right by n places. -/
def ror (x : Int) (n : Nat) : Int := oo (x / 2 ^ n) (x * 2 ^ (32 - n) % 4294967296)

/-- k0 to k63. -/
def ks : List Int := [1116352408, 1899447441, 3049323471, 3921009573, 961987163, 1508970993, 2453635748, 2870763221, 3624381080, 310598401, 607225278, 1426881987, 1925078388, 2162078206, 2614888103, 3248222580, 3835390401, 4022224774, 264347078, 604807628, 770255983, 1249150122, 1555081692, 1996064986, 2554220882, 2821834349, 2952996808, 3210313671, 3336571891, 3584528711, 113926993, 338241895, 666307205, 773529912, 1294757372, 1396182291, 1695183700, 1986661051, 2177026350, 2456956037, 2730485921, 2820302411, 3259730800, 3345764771, 3516065817, 3600352804, 4094571909, 275423344, 430227734, 506948616, 659060556, 883997877, 958139571, 1322822218, 1537002063, 1747873779, 1955562222, 2024104815, 2227730452, 2361852424, 2428436474, 2756734187, 3204031479, 3329325298]

/-- A word of four bytes. -/
def word4 (a b c d : Int) : Int := oo (oo (oo (a * 16777216 % 4294967296) (b * 65536 % 4294967296)) (c * 256 % 4294967296)) d
/-- Word t of a block. -/
def word (b : List Int) (t : Nat) : Int := word4 (b.getD (4 * t) 0) (b.getD (4 * t + 1) 0) (b.getD (4 * t + 2) 0) (b.getD (4 * t + 3) 0)
/-- The first t words. -/
def words (b : List Int) : Nat → List Int
  | 0 => []
  | t + 1 => words b t ++ [word b t]
/-- The word that follows t words. -/
def follow (W : List Int) (t : Nat) : Int :=
  let x := W.getD (t - 15) 0
  let y := W.getD (t - 2) 0
  (xo (xo (ror y 17) (ror y 19)) (y / 1024) + W.getD (t - 7) 0 + xo (xo (ror x 7) (ror x 18)) (x / 8) + W.getD (t - 16) 0) % 4294967296
/-- n words more. -/
def more (W : List Int) : Nat → List Int
  | 0 => W
  | n + 1 => more W n ++ [follow (more W n) (16 + n)]
/-- One round, of eight words. -/
def rndv (a b c d e f g h k w : Int) : List Int :=
  let x := (h + xo (xo (ror e 6) (ror e 11)) (ror e 25) + xo (an e f) (an (no e) g) + k + w)
  let y := (xo (xo (ror a 2) (ror a 13)) (ror a 22) + xo (xo (an a b) (an a c)) (an b c))
  [(x + y) % 4294967296, a, b, c, (d + x) % 4294967296, e, f, g]
/-- One round. -/
def rnd (s : List Int) (k w : Int) : List Int := rndv (s.getD 0 0) (s.getD 1 0) (s.getD 2 0) (s.getD 3 0) (s.getD 4 0) (s.getD 5 0) (s.getD 6 0) (s.getD 7 0) k w
/-- t rounds. -/
def rnds (W h : List Int) : Nat → List Int
  | 0 => h
  | t + 1 => rnd (rnds W h t) (ks.getD t 0) (W.getD t 0)
/-- The first i words of the sum, then what was there. -/
def sums (h s : List Int) : Nat → List Int
  | 0 => h
  | i + 1 => (sums h s i).set i (pl (h.getD i 0) (s.getD i 0))
/-- A block of 64 bytes is added to a state. -/
def blk (h b : List Int) : List Int := sums h (rnds (more (words b 16) 48) h 64) 8
/-- The first state. -/
def h0s : List Int := [1779033703, 3144134277, 1013904242, 2773480762, 1359893119, 2600822924, 528734635, 1541459225]
/-- The state behind n blocks of a padded message. -/
def states (m : List Int) : Nat → List Int
  | 0 => h0s
  | n + 1 => blk (states m n) ((m.drop (64 * n)).take 64)
/-- The number of zeros behind the mark. -/
def zeros (n : Nat) : Nat := (119 - n % 64) % 64
/-- The length in bits, in eight bytes. -/
def lenBytes (bs : Int) : List Int := [bs / 2 ^ 56 % 256, bs / 2 ^ 48 % 256, bs / 2 ^ 40 % 256, bs / 2 ^ 32 % 256, bs / 2 ^ 24 % 256, bs / 2 ^ 16 % 256, bs / 2 ^ 8 % 256, bs / 2 ^ 0 % 256]
/-- The padded message. -/
def padded (L : List Int) : List Int := L ++ [128] ++ List.replicate (zeros L.length) 0 ++ lenBytes ((L.length : Int) * 8 % 18446744073709551616)
/-- Byte i of a digest. -/
def outByte (h : List Int) (i : Nat) : Int := h.getD (i / 4) 0 / 2 ^ (24 - i % 4 * 8) % 256
def outs (h : List Int) : Nat → List Int
  | 0 => []
  | i + 1 => outs h i ++ [outByte h i]
/-- The digest. -/
def shaL (L : List Int) : List Int := outs (states (padded L) ((padded L).length / 64)) 32

theorem zeros_ok (n : Nat) : (n + 1 + zeros n) % 64 = 56 := by unfold zeros; omega
theorem words_len (b : List Int) (t : Nat) : (words b t).length = t := by
  induction t with
  | zero => rfl
  | succ t ih => simp [words, ih]
theorem more_len (W : List Int) (n : Nat) : (more W n).length = W.length + n := by
  induction n with
  | zero => rfl
  | succ n ih => simp [more, ih]; omega
theorem rnds_len (W h : List Int) (hh : h.length = 8) (t : Nat) : (rnds W h t).length = 8 := by
  cases t <;> simp [rnds, rnd, rndv, hh]
theorem sums_len (h s : List Int) (hh : h.length = 8) (i : Nat) : (sums h s i).length = 8 := by
  induction i with
  | zero => exact hh
  | succ i ih => simp [sums, ih]
theorem blk_len (h b : List Int) (hh : h.length = 8) : (blk h b).length = 8 := sums_len _ _ hh _
theorem states_len (m : List Int) (n : Nat) : (states m n).length = 8 := by
  induction n with
  | zero => rfl
  | succ n ih => exact blk_len _ _ ih
theorem outs_len (h : List Int) (n : Nat) : (outs h n).length = n := by
  induction n with
  | zero => rfl
  | succ n ih => simp [outs, ih]
theorem ks_len : ks.length = 64 := rfl

theorem sha_empty : (shaL []).take 4 = [227, 176, 196, 66] := by decide +kernel
theorem sha_abc : (shaL [97, 98, 99]).take 4 = [186, 120, 22, 191] := by decide +kernel

end Go.Proofs.YtebnlklodokhkaaDoor
namespace Go.Proofs.YtebnlklodokhkaaDoor
set_option maxRecDepth 100000
open Go.RowKit

set_option maxHeartbeats 1000000 in
theorem turn_any (x : Int) (n : Nat) (w : World) (hn : 1 ≤ n) (h31 : n ≤ 31) :
    Calls Tryd.prog 74 #[.int .u32 x, .int .i64 n] w fun e w' => e = .returned (.int .u32 (ror x n)) ∧ w' = w.drew := by
  go_enter Tryd.func74, Tryd.ntmps74
  have e1 : Op.shift .shr .u32 x .i64 (n : Int) = (pure (.int .u32 (x / 2 ^ n)) : Sem Value) := by
    rw [shift_shr .u32 .i64 x n (by omega) (by simp [IntKind.bits]; omega)]; simp
  have e2 : IntKind.i64.wrap (32 - (n : Int)) = ((32 - n : Nat) : Int) := by rw [IntKind.wrap_i64]; omega
  have e3 : Op.shift .shl .u32 x .i64 ((32 - n : Nat) : Int) = (pure (.int .u32 (IntKind.u32.wrap (x * 2 ^ (32 - n)))) : Sem Value) := by
    rw [shift_shl .u32 .i64 x _ (by omega) (by simp [IntKind.bits]; omega)]; simp
  go_wp2_with fail
  go_region
  go_wp2
  go_ret
  exact ⟨rfl, rfl⟩

end Go.Proofs.YtebnlklodokhkaaDoor
namespace Go.Proofs.YtebnlklodokhkaaDoor
set_option maxRecDepth 100000
open Go.RowKit

/-- An operation with a known result. -/
theorem run_to {P : Program} {ops : Array Oper} {rest : List Oper} {o : Oper} {a : Act} {w : World} {Q : Exit → Act → World → Prop} (hgd : o.guard = none) (d : Option Tmp) (hd : o.dst = d)
    (v : Value) (w2 : World) (hr : (execOp a.eval o).run P w = .ok (.value v) w2) (k : wpList P ops Q rest (a.put d v) w2) : wpList P ops Q (o :: rest) a w := by
  rw [← hd] at k
  apply wpList_plain hgd
  intro K hK
  rw [Oper.wp, hr, Oper.upon_value]
  exact hK _ _ k
/-- The end of a function without results. -/
theorem end_none {P : Program} {fn : Func} {R : Ending → World → Prop} {a : Act} {w : World} (h : fn.results = #[]) (hd : a.defers = []) (hR : R (.returned (.tuple #[])) w) : bodyPost P fn R .normal a w :=
  bodyPost_end (results_none h _ _ _) hd hR

/-- A whole array goes into the block that was made last: at a plain region's list. -/
theorem wpList_store_new {P : Program} {ops : Array Oper} {rest : List Oper} {op : Oper} {a : Act} {w : World} {Q : Exit → Act → World → Prop} (hgd : op.guard = none) (ty : TypeId) (x y : Operand) (ho : op.op = .store ty x y)
    (c c' : Array Value) (hx : a.eval x = .pointer (some ⟨w.heap.size, 0, none⟩)) (hy : a.eval y = .agg c')
    (hi : (P.info? ty).map (·.size) = some c'.size) (hz : c.size = c'.size) (h1 : c'.all (·.oneCell') = true)
    (h : wpList P ops Q rest (a.put op.dst undef) (w.alloc (.cells c' ty))) : wpList P ops Q (op :: rest) a (w.alloc (.cells c ty)) :=
  wpList_plain hgd fun K hK => by
    unfold Oper.wp execOp
    simp only [ho, hx, hy, Sem.run_bind, run_storeAt_new w ty c c' hi hz h1]
    exact hK _ _ h

/-- The rows of words. -/
abbrev w32s (L : List Int) : Array Value := (L.map (Value.int .u32)).toArray

set_option maxHeartbeats 1000000 in
theorem constants_any (w : World) :
    Calls Tryd.prog 75 #[] w fun e w' => e = .returned (.agg (w32s ks)) ∧ w' = w.alloc (.cells (w32s ks) 107) := by
  go_enter Tryd.func75, Tryd.ntmps75
  apply wp_seq_k
  intro K hK
  apply wp_region_lit
  refine run_to rfl (some 0) rfl (.pointer (some ⟨w.heap.size, 0, none⟩)) (w.alloc (.cells (List.replicate 64 (.int .u32 0)).toArray 107)) (by kernel_rfl) ?_
  apply wpList_nil
  apply hK
  apply wp_seq_k
  intro K2 hK2
  apply wp_region_lit
  refine run_to rfl (some 1) rfl (.agg (w32s ks)) (w.alloc (.cells (List.replicate 64 (.int .u32 0)).toArray 107)) (by kernel_rfl) ?_
  apply wpList_store_new (w := w) (ty := 107) (x := .tmp 0) (y := .tmp 1) (c := (List.replicate 64 (.int .u32 0)).toArray) (c' := w32s ks)
  case hgd => rfl
  case ho => rfl
  case hx => rfl
  case hy => rfl
  case hi => kernel_rfl
  case hz => kernel_rfl
  case h1 => kernel_rfl
  apply wpList_nil
  apply hK2
  apply wp_ret
  have hrow := heap_alloc_last w (.cells (w32s ks) 107)
  refine bodyPost_ret (v := .agg (w32s ks)) ?_ rfl ⟨rfl, rfl⟩
  · refine results_cell_row (fn := Tryd.f75) (p := 0) (ty := 107) rfl _ _ w.heap.size 107 (w32s ks) (0, 0) (.array 64 94) ?_ hrow ?_ ?_ ?_
    · rfl
    · kernel_rfl
    · rfl
    · kernel_rfl
end Go.Proofs.YtebnlklodokhkaaDoor
namespace Go.Proofs.YtebnlklodokhkaaDoor
set_option maxRecDepth 100000
variable {P : Program} {ops : Array Oper} {md : Region.Mode} {C : World → Prop}

/-- Whatever order is picked among the first n, f of them to come. -/
def headQ (P : Program) (md : Region.Mode) (ops : Array Oper) (C : World → Prop) (n : Nat) (L : Array Bool → Act → Prop) : Nat → Array Bool → Act → Prop
  | 0, listed, a => L listed a
  | f + 1, listed, a => Region.ready md ops listed ≠ [] ∧ ∀ i ∈ Region.ready md ops listed, i < n ∧ qOp P ops C i (headQ P md ops C n L f (listed.setIfInBounds i true)) a

theorem wpAny_of_headQ {n g : Nat} {L : Array Bool → Act → Prop} {Q' : Exit → Act → World → Prop} (hL : ∀ listed a w, C w → L listed a → wpAny P md ops Q' g listed a w) :
    ∀ (f : Nat) (listed : Array Bool) (a : Act) (w : World), C w → headQ P md ops C n L f listed a → wpAny P md ops Q' (f + g) listed a w := by
  intro f
  induction f with
  | zero => intro listed a w hw h; rw [Nat.zero_add]; exact hL _ _ _ hw h
  | succ f ih =>
    intro listed a w hw h
    rw [show f + 1 + g = (f + g) + 1 by omega]
    exact ⟨fun h0 => absurd h0 h.1, fun i hi => wpOp_of_qOp hw (fun a' w' hw' h' => ih _ a' w' hw' h') (h.2 i hi).2⟩

theorem headQ_first {n i : Nat} {oi : Oper} {v : Value} {L : Array Bool → Act → Prop} (hi : ops[i]? = some oi) (hsel : ∀ (j : Nat) (o : Oper) cs b, ops[j]? = some o → o.op ≠ .select cs b)
    (hs : Region.sinkB md ops n = true) (hc : Region.chainB md ops n = true) (hn : n < ops.size) (hin : i < n)
    (hdone : ∀ listed a, L listed a → ∀ j ∈ Region.ready md ops listed, n ≤ j) :
    ∀ (f : Nat) (listed : Array Bool) (a : Act), HeadInv md ops n listed →
      (∀ j oj, ops[j]? = some oj → j ≠ i → listed.getD j true = false → (∀ e ∈ oj.after, Region.binds md e = true → e.on ≠ i) → oi.apart ops oj = true) →
      i ∈ Region.ready md ops listed → YieldsIn P ops C oi v a →
      headQ P md ops C n L f (listed.setIfInBounds i true) (a.put oi.dst v) → headQ P md ops C n L (f + 1) listed a := by
  intro f
  induction f with
  | zero =>
    intro listed a inv _ hr hy H
    have hlt : ∀ j ∈ Region.ready md ops listed, j < n := fun j hj => Nat.lt_of_not_le fun h => tail_waits hs hc hn inv _ i rfl hin (mem_ready.1 hr).1 j h hj
    refine ⟨List.ne_nil_of_mem hr, fun j hj => ⟨hlt j hj, ?_⟩⟩
    by_cases hji : j = i
    · subst hji; exact hy.qOp hi H
    · have := hdone _ _ H j (ready_mono hj hji)
      have := hlt j hj
      omega
  | succ f ih =>
    intro listed a inv hfree hr hy H
    have hun := (mem_ready.1 hr).1
    have hlt : ∀ j ∈ Region.ready md ops listed, j < n := fun j hj => Nat.lt_of_not_le fun h => tail_waits hs hc hn inv _ i rfl hin hun j h hj
    refine ⟨List.ne_nil_of_mem hr, fun j hj => ⟨hlt j hj, ?_⟩⟩
    by_cases hji : j = i
    · subst hji; exact hy.qOp hi H
    · obtain ⟨hjun, oj, hoj, hall⟩ := mem_ready.1 hj
      have hnot : ∀ e ∈ oj.after, Region.binds md e = true → e.on ≠ i := fun e he hb heq => by
        have h1 := hall e he hb
        rw [heq, getD_both hun] at h1
        cases h1
      have h2 := qOp_put hoj (hfree j oj hoj hji hjun hnot) (fun cs b => hsel i oi cs b hi) (fun cs b => hsel j oj cs b hoj) hy (H.2 j (ready_mono hj hji)).2
      refine qOp_mono (fun a' h3 => ih (listed.setIfInBounds j true) a' (inv.set hj (hlt j hj)) (fun k ok hk hki hu hno => ?_) (ready_mono hr (Ne.symm hji)) h3.1 ?_) h2
      · refine hfree k ok hk hki ?_ hno
        by_cases hjk : j = k
        · subst hjk; exact hjun
        · rw [getD_set_ne true hjk] at hu; exact hu
      · rw [Array.setIfInBounds_comm _ _ hji]
        exact h3.2

theorem headQ_lex {n g : Nat} {Lq : Act → Prop} (hsel : Region.noSelect ops = true) (hs : Region.sinkB md ops n = true) (hc : Region.chainB md ops n = true) (hn : n < ops.size) :
    ∀ (l : List Oper) (k : Nat) (listed : Array Bool) (a : Act), (∀ j, j < l.length → l[j]? = ops[k + j]?) → k + l.length = n → HeadInv md ops n listed →
    Region.lexHead md ops g l.length k listed = true → wpQuiet P ops C Lq l a →
    headQ P md ops C n (fun listed' a' => Region.seqB md ops g n listed' = true ∧ Lq a') l.length listed a := by
  intro l
  induction l with
  | nil =>
    intro k listed a _ hk _ hB h
    obtain rfl : k = n := by simpa using hk
    exact ⟨by simpa [Region.lexHead] using hB, h⟩
  | cons o l ih =>
    intro k listed a hl hk inv hB h
    have h0 : ops[k]? = some o := by simpa using (hl 0 (by simp)).symm
    simp only [List.length_cons] at hk
    simp only [List.length_cons, Region.lexHead, Bool.and_eq_true] at hB
    obtain ⟨⟨hr, hf⟩, hB'⟩ := hB
    have hr' : k ∈ Region.ready md ops listed := by simpa using hr
    have hst : qOp P ops C k (wpQuiet P ops C Lq l) a := by unfold qOp; simp only [h0]; exact h
    obtain ⟨v, hy, hK⟩ := yieldsIn_of_qOp h0 hst
    exact headQ_first h0 (Region.noSelect_spec hsel) hs hc hn (by omega) (fun listed' a' hL => seqB_ready hL.1) l.length listed a inv (Region.free_spec h0 hf) hr' hy
      (ih (k + 1) _ _ (fun j hj => by have := hl (j + 1) (by simp; omega); simpa [Nat.add_assoc, Nat.add_comm 1 j] using this) (by omega) (inv.set hr' (by omega)) hB' hK)

/-- The region's wp, out of the quiet walk of its first n operations and the tail's in the text's order. -/
theorem wp_region_quiet_tail {id : Nat} {Q : Exit → Act → World → Prop} {a : Act} {w : World} {l : List Oper} (n : Nat) (hm : P.follows .mixedOrders = true) (hB : Region.lexTailB .any l.toArray n = true)
    (h : wpQuiet P l.toArray (fun w' => ∃ m, w' = w.drewN m) (fun a' => ∀ w', (∃ m, w' = w.drewN m) → wpList P l.toArray Q (l.drop n) a' w') (l.take n) a) : (Code.region id l.toArray true).wp P Q a w := by
  simp only [Region.lexTailB, Bool.and_eq_true, decide_eq_true_eq] at hB
  obtain ⟨⟨⟨⟨hsel, hn⟩, hs⟩, hc⟩, hlex⟩ := hB
  have hn' : n < l.length := by simpa using hn
  have htl : (l.take n).length = n := by simp; omega
  have hdl : (l.drop n).length = l.toArray.size - n := by simp
  have inv0 : HeadInv .any l.toArray n (Array.replicate l.toArray.size false) :=
    ⟨by simp, fun j oj _ hl => (by rw [getD_replicate_false] at hl; cases hl), fun t _ ht => getD_in (by simpa using ht) (getD_replicate_false _ _)⟩
  have H := headQ_lex (md := .any) (g := l.toArray.size - n) hsel hs hc hn (l.take n) 0 _ a (fun j hj => by
    have hj' : j < n := by rw [htl] at hj; exact hj
    simp [hj']) (by simpa using htl) inv0 (by rw [htl]; exact hlex) h
  refine wp_region_any hm ?_
  have := wpAny_of_headQ (Q' := Q) (g := l.toArray.size - n) (fun listed a' w' hw' hL => by
    have := wpAny_of_seq (md := .any) (Q' := Q) (l.drop n) n listed a' w' (fun j => by simp [List.getElem?_drop]) (by rw [hdl]; exact hL.1) (hL.2 w' hw')
    rwa [hdl] at this) _ _ _ { w with drawn := w.drawn + 1 } ⟨1, rfl⟩ H
  rw [htl, show n + (l.toArray.size - n) = l.toArray.size by omega] at this
  exact this
end Go.Proofs.YtebnlklodokhkaaDoor
