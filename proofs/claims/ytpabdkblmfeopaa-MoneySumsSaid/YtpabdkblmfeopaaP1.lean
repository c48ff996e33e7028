/-
  Lemmas for the statement on Sum: how a slice of integers reads, and what stays readable when the call makes new memory.
  Conditions: none of their own.
-/
import Derived.Test.YtpabdkblmfeopaaM3
import Derived.OpenShut
import Derived.Below
namespace Go.Proofs.Ytpabdkblmfeopaa
open Go.RowKit

theorem info22 : (Try.prog.info? 22).map (fun i => (i.zero, i.size, i.bytes)) = some (some (.int .u64 0), 1, 8) := by kernel_rfl

/-- A slice value at address a reads as the list l. -/
def Reads (K : IntKind) (w : World) (a : Option Addr) (l : List Int) : Prop :=
  ∀ k, k < l.length → ∃ b off, a = some ⟨b, off, none⟩ ∧ w.cell? ⟨b, off + k, none⟩ = some (.int K (l.getD k 0))

theorem reads_below {K : IntKind} {w w' : World} {a : Option Addr} {l : List Int} (h : Reads K w a l) (hb : Below w.heap.size w w') : Reads K w' a l := by
  intro k hk
  obtain ⟨b, off, ha, hc⟩ := h k hk
  exact ⟨b, off, ha, (hb.cell (p := ⟨b, off + k, none⟩) (World.block_lt_of_cell? w _ hc)).trans hc⟩

theorem reads_own {w : World} {B : Nat} {v : Value} {n : Nat} {l : List Int} (h : w.ownsRow B 22 1 v n (l.map (Value.int .u64))) : ∃ a c, v = .slice a l.length c ∧ Reads .u64 w a l ∧ (∀ x, a = some x → x.block < w.heap.size) ∧ n = l.length := by
  have hn : l.length = n := by have := h.1; simpa using this
  subst hn
  rcases h.2 with ⟨rfl, h0⟩ | ⟨g, cap, cur, rfl, hb, hg, _⟩
  · exact ⟨none, 0, by rw [h0], fun k hk => by omega, fun x hx => (by cases hx), rfl⟩
  · refine ⟨some ⟨g, 0, none⟩, cap, rfl, fun k hk => ⟨g, 0, rfl, ?_⟩, fun x hx => (by cases hx; exact (Array.getElem?_eq_some_iff.1 hg).1), rfl⟩
    have hk' := h.cells (g := g) rfl k (.int .u64 (l.getD k 0)) (by rw [List.getElem?_map, List.getElem?_eq_getElem hk, List.getD_eq_getElem?_getD, List.getElem?_eq_getElem hk]; rfl)
    rw [← hk', Go.WideShapes.add_plain]

theorem ownsRow_below {w w' : World} {B B2 : Nat} {v : Value} {n : Nat} {xs : List Value} (h : w.ownsRow B 22 1 v n xs) (hb : Below B2 w w') (hlt : w.heap.size ≤ B2) : w'.ownsRow B 22 1 v n xs := by
  refine ⟨h.1, ?_⟩
  rcases h.2 with hn | ⟨g, cap, cur, rfl, h1, hg, rest⟩
  · exact .inl hn
  · have hl := (Array.getElem?_eq_some_iff.1 hg).1
    exact .inr ⟨g, cap, cur, rfl, h1, (hb.block g (by omega)).trans hg, rest⟩

theorem tot_reverse (l : List Int) : tot l.reverse = tot l := by
  induction l with
  | nil => rfl
  | cons x l ih =>
    rw [List.reverse_cons, tot_append, ih, tot_cons, tot_cons]
    simp [tot]
    omega
theorem sum_reverse (l : List Int) : sumV l.reverse = sumV l ∧ sumB l.reverse = sumB l := by
  unfold sumV sumB
  rw [tot_reverse]
  exact ⟨rfl, rfl⟩

theorem getD_words (l : List Int) (h : ∀ x, x ∈ l → W64 x) : ∀ k, k < l.length → W64 (l.getD k 0) := by
  intro k hk
  rw [List.getD_eq_getElem?_getD, List.getElem?_eq_getElem hk]
  exact h _ (List.getElem_mem hk)

theorem take_getD (l : List Int) (k : Nat) (hk : k < l.length) : l.take (k + 1) = l.take k ++ [l.getD k 0] := by
  rw [List.take_succ_eq_append_getElem hk, List.getD_eq_getElem?_getD, List.getElem?_eq_getElem hk]
  rfl
theorem drop_rev (l : List Int) (k : Nat) (hk : k < l.length) : (l.drop k).reverse = (l.drop (k + 1)).reverse ++ [l.getD k 0] := by
  rw [List.drop_eq_getElem_cons hk, List.reverse_cons, List.getD_eq_getElem?_getD, List.getElem?_eq_getElem hk]
  rfl

/-- What the first loop has gathered of the first k numbers. -/
def Shl (l : List Int) : List Int := l.map (· * 1099511627776)
theorem shl_len (l : List Int) : (Shl l).length = l.length := by simp [Shl]
theorem shl_take (l : List Int) (k : Nat) (hk : k < l.length) : (Shl (l.take (k + 1))).map (Value.int .u64) = (Shl (l.take k)).map (Value.int .u64) ++ [.int .u64 (l.getD k 0 * 1099511627776)] := by
  rw [take_getD l k hk]; simp [Shl]

/-- Behind an append of one number to an owned row: the new row, and all that lies below the base stays. -/
theorem after_append {w0 wr w1 : World} {B B2 n : Nat} {v v' : Value} {o : Obj} {xs news : List Value} (hB : B2 ≤ B) (hBr : B ≤ wr.heap.size) (hown : wr.ownsRow B 22 1 v n xs) (hnx : Below B2 w0 wr)
    (hown' : w1.ownsRow B 22 1 v' (n + 1) (xs ++ news)) (hgrow : (wr.alloc o).grownBy w1 v.ownBlock) : w1.ownsRow B 22 1 v' (n + 1) (xs ++ news) ∧ Below B2 w0 w1 :=
  ⟨hown', (hnx.alloc (by omega) o).grown hgrow (by simp; omega) (fun j hj => by have := (hown.lt j hj).1; omega)⟩

end Go.Proofs.Ytpabdkblmfeopaa
