/-
  The program's heap in memory: its block, its map, its row of items; and what each step leaves.
-/
import Derived.Test.YtepdibnbnhkpnaaHI
import Derived.Test.YtepdibnbnhkpnaaHM
namespace Go.Proofs.Ytepdibnbnhkpnaa
open Go.RowKit
set_option linter.unusedSimpArgs false
set_option linter.unusedVariables false

/-- Only blocks of S, and new ones, are written; all of S lies from B on. -/
def ButS (B : Nat) (S : Nat → Prop) (w w' : World) : Prop := Below B w w' ∧ ∀ k, k < w.heap.size → ¬ S k → w'.heap[k]? = w.heap[k]?
theorem ButS.of_below {B : Nat} {S : Nat → Prop} {w w' : World} (h : Below w.heap.size w w') (hB : B ≤ w.heap.size) : ButS B S w w' := ⟨h.mono hB, fun k hk _ => h.block k hk⟩
theorem Bx.buts {w w' : World} {k t B : Nat} {S : Nat → Prop} {cs : Array Value} (h : Bx w k cs t) (hb : ButS B S w w') (hn : ¬ S k) : Bx w' k cs t := (hb.2 k h.lt hn).trans h
theorem Cs.buts {w w' : World} {B : Nat} {S : Nat → Prop} {a : Option Addr} {cs : List Value} (h : Cs w a cs) (hb : ButS B S w w') (hn : ∀ x, a = some x → ¬ S x.block) : Cs w' a cs := fun j v hj => by
  obtain ⟨b, off, e, hlt, hc⟩ := h j v hj
  refine ⟨b, off, e, Nat.lt_of_lt_of_le hlt hb.1.size, ?_⟩
  rw [← hc]
  unfold World.cell?
  rw [hb.2 b hlt (hn _ e)]
theorem ButS.refl (B : Nat) (S : Nat → Prop) (w : World) : ButS B S w w := ⟨Below.refl _ _, fun _ _ _ => rfl⟩
theorem ButS.trans {B : Nat} {S S2 : Nat → Prop} {a b c : World} (h : ButS B S a b) (k : ButS B S2 b c) (hs : ∀ x, S2 x → S x ∨ a.heap.size ≤ x) : ButS B S a c :=
  ⟨h.1.trans k.1, fun i hi hn => (k.2 i (by have := h.1.size; omega) (fun h2 => (hs i h2).elim hn (by omega))).trans (h.2 i hi hn)⟩
theorem ButS.trans' {B : Nat} {S : Nat → Prop} {a b c : World} (h : ButS B S a b) (k : ButS B S b c) : ButS B S a c := h.trans k fun _ => .inl
theorem ButS.setCell {B : Nat} {S : Nat → Prop} (w : World) (b o : Nat) (v : Value) (hB : B ≤ b) (hS : S b) : ButS B S w (w.setCell ⟨b, o, none⟩ v) :=
  ⟨(Below.refl B w).setCell hB v, fun k _ hn => heap_setCell_other w _ k v (fun e => hn (by rw [e]; exact hS))⟩
/-- One cell of a row of the call's own is written. -/
theorem own_set {w : World} {B e s n c b : Nat} {xs : List Value} (h : w.ownsRow B e s (.slice (some ⟨b, 0, none⟩) n c) n xs) (j : Nat) (v : Value) (hj : j < xs.length) : (w.setCell ⟨b, j, none⟩ v).ownsRow B e s (.slice (some ⟨b, 0, none⟩) n c) n (xs.set j v) := by
  have hlen := h.1
  rcases h.2 with ⟨e0, -⟩ | ⟨g, cap, cur, e0, hb, hg, hn, hm, hc, ht⟩
  · cases e0
  · simp only [Value.slice.injEq, Option.some.injEq, Addr.mk.injEq, and_true, true_and] at e0
    obtain ⟨rfl, rfl⟩ := e0
    refine ⟨by simpa using hlen, .inr ⟨b, c, cur.setIfInBounds j v, rfl, hb, Joins.block_setCell hg v, hn, hm, by simpa using hc, ?_⟩⟩
    rw [Array.toList_setIfInBounds, List.take_set, ht]
theorem own_row {w : World} {B e s n c b : Nat} {xs : List Value} (h : w.ownsRow B e s (.slice (some ⟨b, 0, none⟩) n c) n xs) : ∃ cur, Bx w b cur e ∧ n * s ≤ cur.size ∧ B ≤ b ∧ cur.toList.take (n * s) = xs := by
  rcases h.2 with ⟨e0, -⟩ | ⟨g, cap, cur, e0, hb, hg, hn, hm, hc, ht⟩
  · cases e0
  · simp only [Value.slice.injEq, Option.some.injEq, Addr.mk.injEq, and_true, true_and] at e0
    obtain ⟨rfl, rfl⟩ := e0
    exact ⟨cur, hg, by rw [hc]; exact Nat.mul_le_mul_right _ hn, hb, ht⟩
/-- A row whose block is as it was. -/
theorem own_same {w w' : World} {B e s n c : Nat} {a : Option Addr} {xs : List Value} (h : w.ownsRow B e s (.slice a n c) n xs) (hs : ∀ x, a = some x → w'.heap[x.block]? = w.heap[x.block]?) : w'.ownsRow B e s (.slice a n c) n xs := by
  refine ⟨h.1, ?_⟩
  rcases h.2 with h0 | ⟨g, cap, cur, e0, hb, hg, r⟩
  · exact .inl h0
  · refine .inr ⟨g, cap, cur, e0, hb, ?_, r⟩
    simp only [Value.slice.injEq, true_and] at e0
    rw [← hg]
    exact hs _ e0.1
theorem ButS.sets {B b : Nat} {S : Nat → Prop} (hB : B ≤ b) (hS : S b) : ∀ (vs : List Value) (o : Nat) (w : World), ButS B S w (w.setCells b o vs)
  | [], o, w => ButS.refl _ _ _
  | v :: r, o, w => (ButS.setCell w b o v hB hS).trans' (ButS.sets hB hS r (o + 1) _)
theorem own_sets {B e s n c b : Nat} : ∀ (vs : List Value) (o : Nat) (w : World) (xs : List Value), w.ownsRow B e s (.slice (some ⟨b, 0, none⟩) n c) n xs → o + vs.length ≤ xs.length → (w.setCells b o vs).ownsRow B e s (.slice (some ⟨b, 0, none⟩) n c) n (xs.take o ++ vs ++ xs.drop (o + vs.length))
  | [], o, w, xs, h, _ => by simpa [World.setCells] using h
  | v :: r, o, w, xs, h, hl => by
    rw [List.length_cons] at hl
    have h1 := own_sets r (o + 1) _ _ (own_set h o v (by omega)) (by rw [List.length_set]; omega)
    rw [World.setCells]
    have e : (xs.set o v).take (o + 1) ++ r ++ (xs.set o v).drop (o + 1 + r.length) = xs.take o ++ v :: r ++ xs.drop (o + (v :: r).length) := by
      rw [List.drop_set_of_lt (by omega), List.take_set, List.length_cons, show o + (r.length + 1) = o + 1 + r.length by omega]
      have ho : o < xs.length := by omega
      rw [List.take_add_one, List.getElem?_eq_getElem ho, Option.toList_some, List.set_append_right _ _ (by rw [List.length_take]; omega), List.length_take, Nat.min_eq_left (by omega), Nat.sub_self, List.set_cons_zero]
      simp
    rw [e] at h1
    exact h1
/-- 'append' of one element to a row of the call's own: where the new row lies. -/
theorem app_one {w : World} {P : Program} {t e s bytes : Nat} {v0 : Value} (hu : P.underlying t = some (.slice e)) (hinfo : (P.info? e).map (fun i => (i.zero, i.size, i.bytes)) = some (some v0, s, bytes)) (hzs : v0.cells.size = s) (hs : 0 < s) (hby : bytes ≤ 1000)
    {B n : Nat} {v : Value} {xs : List Value} (hO : w.ownsRow B e s v n xs) (b : Nat) (ys : List Value) (hP : Cs w (some ⟨b, 0, none⟩) ys) (hl : ys.length = s) (h1 : ∀ u ∈ ys, u.oneCell' = true) (hB : B ≤ w.heap.size) (hn : n ≤ 100000) :
    ∃ v' w', (Builtin.append_ #[t, t] t #[v, .slice (some ⟨b, 0, none⟩) 1 1]).run P w = .ok v' w' ∧ w'.ownsRow B e s v' (n + 1) (xs ++ ys) ∧ w.grownBy w' v.ownBlock ∧ (v'.ownBlock = v.ownBlock ∨ v'.ownBlock = some w.heap.size) := by
  obtain ⟨i0, hi, hz0, hz1, hz2⟩ := info_parts hinfo
  obtain ⟨v', w', hr, h2, h3, -, h4⟩ := run_append_own_at (P := P) w B t t e i0 v0 s bytes hu hi hz0 hz1 hz2 hzs hs v n xs hO ⟨b, 0, none⟩ 1 1 ys (by omega) (fun j u hj => by
    obtain ⟨b2, off2, e2, -, hc⟩ := hP j u hj
    simp only [Option.some.injEq, Addr.mk.injEq, and_true] at e2
    obtain ⟨rfl, rfl⟩ := e2
    rw [Addr.add_mid]
    exact hc) h1 (by unfold maxLen; omega) (by have := Nat.mul_le_mul (show n + 1 ≤ 100001 by omega) hby; omega) hB
  exact ⟨v', w', hr, h2, h3, h4⟩
theorem own_some {q : Option Addr} {n c k : Nat} (e : (Value.slice q n c).ownBlock = some k) : ∃ x, q = some x ∧ x.block = k := by
  cases q with
  | none => cases e
  | some x => exact ⟨x, rfl, by simpa [Value.ownBlock] using e⟩
theorem own_where {a q : Option Addr} {n c n2 c2 K : Nat} (ha : (Value.slice a n c).ownBlock = (Value.slice q n2 c2).ownBlock ∨ (Value.slice a n c).ownBlock = some K) (y : Addr) (hy : a = some y) : (∃ x, q = some x ∧ x.block = y.block) ∨ y.block = K := by
  subst hy
  rcases ha with e | e
  · exact .inl (own_some e.symm)
  · exact .inr (by simpa [Value.ownBlock] using e)
structure Hd where
  B : Nat
  ka : Option Addr
  kc : Nat
  A : List It
/-- The block of a heap: the items, the map. -/
def hdh (d : Hd) : Array Value := #[.slice d.ka d.A.length d.kc, .map (some d.B)]
/-- The blocks of each part. -/
def Ph (g : Nat) (d : Hd) : Nat → Nat → Prop
  | 0, k => k = g
  | 1, k => k = d.B
  | 2, k => ∃ x, d.ka = some x ∧ x.block = k
  | _, _ => False
structure Mh (w : World) (g : Nat) (d : Hd) (f : Int → Option Int) : Prop where
  bx : Bx w g (hdh d) 58
  mp : Mf w d.B f
  rk : w.ownsRow 0 24 3 (.slice d.ka d.A.length d.kc) d.A.length (itc d.A)
  dis : ∀ i j k, Ph g d i k → Ph g d j k → i = j
section
variable {w w' : World} {g : Nat} {d : Hd} {f : Int → Option Int}
theorem Mh.inn (h : Mh w g d f) : ∀ i k, Ph g d i k → k < w.heap.size
  | 0, k, hk => by
    have e : k = g := hk
    rw [e]; exact h.bx.lt
  | 1, k, hk => by
    have e : k = d.B := hk
    rw [e]; exact h.mp.lt
  | 2, k, hk => by
    obtain ⟨x, hx, rfl⟩ := hk
    exact (h.rk.lt x.block (by rw [hx]; rfl)).2
theorem Mh.same (h : Mh w g d f) (hs : ∀ i k, Ph g d i k → w'.heap[k]? = w.heap[k]?) : Mh w' g d f :=
  { bx := (hs 0 g rfl).trans h.bx
    mp := h.mp.same (hs 1 d.B rfl)
    rk := own_same h.rk fun x hx => hs 2 _ ⟨x, hx, rfl⟩
    dis := h.dis }
theorem Mh.below (h : Mh w g d f) (hb : Below w.heap.size w w') : Mh w' g d f := h.same fun i k hk => hb.block k (h.inn i k hk)
theorem Mh.drew (h : Mh w g d f) : Mh { w with drawn := w.drawn + 1 } g d f := h.same fun _ _ _ => rfl
theorem Mh.ld0 (h : Mh w g d f) : (Instr.loadAt 35 (.pointer (some ⟨g, 0, none⟩))).run Try.prog w = .ok (.slice d.ka d.A.length d.kc) w := h.bx.load (i := 0) rfl (by kernel_rfl)
theorem Mh.ld1 (h : Mh w g d f) : (Instr.loadAt 56 (.pointer (some ⟨g, 1, none⟩))).run Try.prog w = .ok (.map (some d.B)) w := h.bx.load (i := 1) rfl (by kernel_rfl)
theorem Mh.addr (h : Mh w g d f) (hi : 0 < d.A.length) : ∃ b, d.ka = some ⟨b, 0, none⟩ := by
  rcases h.rk.2 with ⟨-, h0⟩ | ⟨b, cap, cur, e0, -⟩
  · omega
  · simp only [Value.slice.injEq, true_and] at e0
    exact ⟨b, e0.1⟩
theorem Mh.cap (h : Mh w g d f) : d.A.length ≤ d.kc := by
  obtain ⟨a, c, e, -, hc⟩ := own_cs h.rk
  simp only [Value.slice.injEq, true_and] at e
  rw [e.2]; exact hc
theorem Mh.cs (h : Mh w g d f) : Cs w d.ka (itc d.A) := by
  obtain ⟨a, c, e, hc, -⟩ := own_cs h.rk
  simp only [Value.slice.injEq, true_and] at e
  rw [e.1]; exact hc
theorem Mh.range (h : Mh w g d f) {b : Nat} (hb : d.ka = some ⟨b, 0, none⟩) {i : Nat} (hi : i < d.A.length) : w.rangeAt b (i * 3) (itl (ita d.A i)) := by
  obtain ⟨b2, off, e, -, hr⟩ := it_range h.cs hi
  rw [hb] at e
  simp only [Option.some.injEq, Addr.mk.injEq, and_true] at e
  obtain ⟨rfl, rfl⟩ := e
  rw [Nat.zero_add] at hr
  exact hr
theorem Mh.item (h : Mh w g d f) {b : Nat} (hb : d.ka = some ⟨b, 0, none⟩) {i : Nat} (hi : i < d.A.length) : (Instr.loadAt 24 (.pointer (some ⟨b, i * 3, none⟩))).run Try.prog w = .ok (.agg (itA (ita d.A i))) w := load_it (h.range hb hi)
theorem Mh.id (h : Mh w g d f) {b : Nat} (hb : d.ka = some ⟨b, 0, none⟩) {i : Nat} (hi : i < d.A.length) : (Instr.loadAt 3 (.pointer (some ⟨b, i * 3, none⟩))).run Try.prog w = .ok (.int .i64 (ita d.A i).1) w := by
  refine load_cell ?_ (by kernel_rfl)
  have := h.range hb hi 0 (.int .i64 (ita d.A i).1) rfl
  simpa using this
theorem Mh.there (h : Mh w g d f) {b : Nat} (hb : d.ka = some ⟨b, 0, none⟩) {i : Nat} (hi : i < d.A.length) : w.there b (i * 3) 3 := fun j hj => by
  have hr := h.rk
  rw [hb] at hr
  obtain ⟨cur, hcur, hz, -, -⟩ := own_row hr
  refine ⟨?_, frozen_of_row w b _ _ 24 hcur⟩
  rw [cell_of_row w b _ _ 24 (0, 0) hcur, Array.getElem?_eq_getElem (by omega)]
  rfl
theorem Mh.store (h : Mh w g d f) {b : Nat} (hb : d.ka = some ⟨b, 0, none⟩) {i : Nat} (hi : i < d.A.length) (x : It) : (Instr.storeAt 24 (.pointer (some ⟨b, i * 3, none⟩)) (.agg (itA x))).run Try.prog w = .ok () (w.setCells b (i * 3) (itl x)) :=
  run_storeAt_mid w b (i * 3) 24 (itl x).toArray (h.there hb hi) (by kernel_rfl) (itA_one x)
end
/-- All blocks of a heap. -/
def Sh (g : Nat) (d : Hd) (k : Nat) : Prop := ∃ i, Ph g d i k
/-- From w to w' a heap's data became d', f'; only its blocks, and new ones, were written. -/
structure Gh (Bd g : Nat) (d : Hd) (w : World) (d' : Hd) (f' : Int → Option Int) (w' : World) : Prop where
  mem : Mh w' g d' f'
  sub : ∀ k, Sh g d' k → Sh g d k ∨ w.heap.size ≤ k
  but : ButS Bd (Sh g d) w w'
section
variable {Bd g : Nat} {d d1 d2 : Hd} {f f1 f2 : Int → Option Int} {w w1 w2 : World}
theorem Gh.refl (h : Mh w g d f) : Gh Bd g d w d f w := ⟨h, fun k hk => .inl hk, ButS.refl _ _ _⟩
theorem Gh.trans (h : Gh Bd g d w d1 f1 w1) (k : Gh Bd g d1 w1 d2 f2 w2) : Gh Bd g d w d2 f2 w2 :=
  ⟨k.mem, fun x hx => (k.sub x hx).elim (h.sub x) (fun h2 => .inr (Nat.le_trans h.but.1.size h2)), h.but.trans k.but h.sub⟩
theorem Gh.base (h : Gh Bd g d w d1 f1 w1) (hB : ∀ k, Sh g d k → Bd ≤ k) (hw : Bd ≤ w.heap.size) : ∀ k, Sh g d1 k → Bd ≤ k := fun k hk => (h.sub k hk).elim (hB k) (Nat.le_trans hw)
theorem Gh.size (h : Gh Bd g d w d1 f1 w1) (hw : Bd ≤ w.heap.size) : Bd ≤ w1.heap.size := Nat.le_trans hw h.but.1.size
theorem Gh.below (h : Mh w g d f) (hb : Below w.heap.size w w1) (hw : Bd ≤ w.heap.size) : Gh Bd g d w d f w1 := ⟨h.below hb, fun k hk => .inl hk, ButS.of_below hb hw⟩
theorem Gh.drew (h : Gh Bd g d w d1 f1 w1) : Gh Bd g d w d1 f1 { w1 with drawn := w1.drawn + 1 } :=
  ⟨h.mem.drew, h.sub, ⟨h.but.1.drew, h.but.2⟩⟩
/-- New blocks belong to one part. -/
theorem partsH {n : Nat} (hin : ∀ i k, Ph g d i k → k < w.heap.size) (hd : ∀ i j k, Ph g d i k → Ph g d j k → i = j) (hp : ∀ j k, Ph g d1 j k → Ph g d j k ∨ (w.heap.size ≤ k ∧ j = n)) : ∀ i j k, Ph g d1 i k → Ph g d1 j k → i = j := fun i j k hi hj => by
  rcases hp i k hi with h1 | h1 <;> rcases hp j k hj with h2 | h2
  · exact hd i j k h1 h2
  · have := hin i k h1
    omega
  · have := hin j k h2
    omega
  · rw [h1.2, h2.2]
/-- The map was changed. -/
theorem Gh.map (h : Mh w g d f) (hB : Bd ≤ d.B) (hm : Mf w1 d.B f1) (hg : w.grownBy w1 (some d.B)) : Gh Bd g d w d f1 w1 := by
  obtain ⟨h1, h2, h3, h4, h5⟩ := hg
  have hk : ∀ i k, i ≠ 1 → Ph g d i k → w1.heap[k]? = w.heap[k]? := fun i k hi hk => h5 k (h.inn i k hk) fun e => by
    rw [Option.some.injEq] at e
    exact hi (h.dis i 1 k hk e)
  exact ⟨⟨(hk 0 g (by omega) rfl).trans h.bx, hm, own_same h.rk fun x hx => hk 2 _ (by omega) ⟨x, hx, rfl⟩, h.dis⟩, fun k hk => .inl hk,
    ⟨by assumption, by assumption, by assumption, by assumption, fun i hi => h5 i (Nat.lt_of_lt_of_le hi (Nat.le_trans hB (Nat.le_of_lt h.mp.lt))) (fun e => by rw [Option.some.injEq] at e; omega)⟩, fun i hi hn => h5 i hi fun e => hn ⟨1, by rw [Option.some.injEq] at e; exact e⟩⟩
/-- An item was written over. -/
theorem Gh.setA (h : Mh w g d f) (hB : ∀ k, Sh g d k → Bd ≤ k) {b : Nat} (hb : d.ka = some ⟨b, 0, none⟩) (i : Nat) (hi : i < d.A.length) (x : It) : Gh Bd g d w { d with A := d.A.set i x } f (w.setCells b (i * 3) (itl x)) := by
  have h2 : Ph g d 2 b := ⟨_, hb, rfl⟩
  have hbut := ButS.sets (S := fun x => x = b) (hB b ⟨2, h2⟩) rfl (itl x) (i * 3) w
  have hs : ∀ j k, j ≠ 2 → Ph g d j k → (w.setCells b (i * 3) (itl x)).heap[k]? = w.heap[k]? := fun j k hj hk => hbut.2 k (h.inn j k hk) fun e => hj (h.dis j 2 k hk (by rw [e]; exact h2))
  have hl : (d.A.set i x).length = d.A.length := List.length_set
  refine ⟨⟨?_, h.mp.same (hs 1 _ (by omega) rfl), ?_, h.dis⟩, fun k hk => .inl hk, hbut.1, fun k hk hn => hbut.2 k hk fun e => hn ⟨2, by rw [e]; exact h2⟩⟩
  · show Bx _ _ (hdh { d with A := d.A.set i x }) _
    unfold hdh
    simp only [hl]
    exact (hs 0 g (by omega) rfl).trans h.bx
  · show World.ownsRow _ 0 24 3 (.slice d.ka (d.A.set i x).length d.kc) (d.A.set i x).length (itc (d.A.set i x))
    have h1 := h.rk
    rw [hl]
    rw [hb] at h1 ⊢
    have h3 := own_set (own_set (own_set h1 (i * 3) (.int .i64 x.1) (by rw [itc_len]; omega)) (i * 3 + 1) (.int .u64 x.2.1) (by rw [List.length_set, itc_len]; omega)) (i * 3 + 1 + 1) (.int .i64 x.2.2) (by rw [List.length_set, List.length_set, itc_len]; omega)
    rw [itc_set3 _ _ _ hi] at h3
    exact h3
/-- Two items were exchanged. -/
theorem Gh.swap (h : Mh w g d f) (hB : ∀ k, Sh g d k → Bd ≤ k) {b : Nat} (hb : d.ka = some ⟨b, 0, none⟩) (i j : Nat) (hi : i < d.A.length) (hj : j < d.A.length) : Gh Bd g d w { d with A := swL d.A i j } f ((w.setCells b (i * 3) (itl (ita d.A j))).setCells b (j * 3) (itl (ita d.A i))) := by
  have h1 := Gh.setA h hB hb i hi (ita d.A j)
  have h2 := Gh.setA (Bd := Bd) h1.mem (fun k hk => hB k hk) (b := b) hb j (by rw [List.length_set]; exact hj) (ita d.A i)
  exact h1.trans h2
/-- A cell of a heap's block was written, its row perhaps before. -/
theorem Gh.head (h : Mh w g d f) (hB : ∀ k, Sh g d k → Bd ≤ k) {V : World} (hb : ButS Bd (Sh g d) w V) (h0 : ∀ j k, j ≤ 1 → Ph g d j k → V.heap[k]? = w.heap[k]?) (e1 : d1.B = d.B)
    (r3 : V.ownsRow 0 24 3 (.slice d1.ka d1.A.length d1.kc) d1.A.length (itc d1.A)) (hp : ∀ k, Ph g d1 2 k → Ph g d 2 k ∨ w.heap.size ≤ k) (v : Value) (hv : v = .slice d1.ka d1.A.length d1.kc) : Gh Bd g d w d1 f (V.setCell ⟨g, 0, none⟩ v) := by
  have hp2 : ∀ j k, Ph g d1 j k → Ph g d j k ∨ (w.heap.size ≤ k ∧ j = 2)
    | 0, k, hk => .inl hk
    | 1, k, hk => .inl (show k = d.B from e1 ▸ hk)
    | 2, k, hk => (hp k hk).imp id fun h => ⟨h, rfl⟩
    | _ + 3, k, hk => hk.elim
  have hdis := partsH h.inn h.dis hp2
  have hgw := h.bx.lt
  have hset : ∀ j k, j ≠ 0 → Ph g d1 j k → (V.setCell ⟨g, 0, none⟩ v).heap[k]? = V.heap[k]? := fun j k hj hk => heap_setCell_other V ⟨g, 0, none⟩ k v fun e => hj (hdis j 0 k hk e)
  refine ⟨⟨?_, ?_, own_same r3 fun x hx => hset 2 _ (by omega) ⟨x, hx, rfl⟩, hdis⟩, ?_, hb.trans' (ButS.setCell V g 0 v (hB g ⟨0, rfl⟩) ⟨0, rfl⟩)⟩
  · have := Bx.setC ((h0 0 g (by omega) rfl).trans h.bx : Bx V g (hdh d) 58) (i := 0) v
    rw [hv] at this ⊢
    have e : hdh d1 = (hdh d).setIfInBounds 0 (.slice d1.ka d1.A.length d1.kc) := by
      unfold hdh
      rw [e1]
      rfl
    rw [e]
    exact this
  · rw [e1]
    exact h.mp.same ((hset 1 _ (by omega) e1.symm).trans (h0 1 _ (by omega) rfl))
  · rintro k ⟨j, hj⟩
    exact (hp2 j k hj).imp (fun h => ⟨j, h⟩) (·.1)
/-- What 'append' to a heap's row leaves. -/
theorem Gh.grown (h : Mh w g d f) (hB : ∀ k, Sh g d k → Bd ≤ k) (hw : Bd ≤ w.heap.size) (hb : Below w.heap.size w w1) {row : Option Nat} (n : Nat) (hn : ∀ k, row = some k → Ph g d n k) (hg : w1.grownBy w2 row) : ButS Bd (Sh g d) w w2 ∧ ∀ j k, j ≠ n → Ph g d j k → w2.heap[k]? = w.heap[k]? := by
  obtain ⟨g1, g2, g3, g4, g5⟩ := hg
  have hs := hb.size
  have hx : ∀ k, k < w.heap.size → ¬ Ph g d n k → w2.heap[k]? = w.heap[k]? := fun k hk hn2 => (g5 k (by omega) fun e => hn2 (hn k e.symm)).trans (hb.block k hk)
  have hb2 : Below Bd w1 w2 := ⟨by assumption, by assumption, by assumption, by assumption, fun i hi => g5 i (by omega) fun e => by
    have := hB i ⟨n, hn i e.symm⟩
    omega⟩
  exact ⟨⟨(hb.mono hw).trans hb2, fun k hk hn2 => hx k hk fun h2 => hn2 ⟨n, h2⟩⟩, fun j k hj hk => hx k (h.inn j k hk) fun h2 => hj (h.dis j n k hk h2)⟩
/-- An item was appended, and the slice stored. -/
theorem Gh.push (h : Mh w g d f) (hB : ∀ k, Sh g d k → Bd ≤ k) (hw : Bd ≤ w.heap.size) (hb : Below w.heap.size w w1) {v : Value} {x : It} (hO : w2.ownsRow 0 24 3 v (d.A.length + 1) (itc (d.A ++ [x]))) (hg : w1.grownBy w2 (Value.slice d.ka d.A.length d.kc).ownBlock) (ha : v.ownBlock = (Value.slice d.ka d.A.length d.kc).ownBlock ∨ v.ownBlock = some w1.heap.size) :
    ∃ a c, v = .slice a (d.A ++ [x]).length c ∧ Gh Bd g d w { d with ka := a, kc := c, A := d.A ++ [x] } f (w2.setCell ⟨g, 0, none⟩ v) := by
  obtain ⟨a, c, rfl, -, -⟩ := own_cs hO
  have hl : d.A.length + 1 = (d.A ++ [x]).length := by simp
  rw [hl] at hO ha ⊢
  have hs := hb.size
  obtain ⟨hb2, hk⟩ := Gh.grown h hB hw hb 2 (fun k e => own_some e) hg
  refine ⟨a, c, rfl, Gh.head (d1 := { d with ka := a, kc := c, A := d.A ++ [x] }) h hB hb2 (fun j k hj => hk j k (by omega)) rfl hO ?_ _ rfl⟩
  rintro k ⟨y, hy, e⟩
  exact (own_where ha y hy).elim (fun h2 => .inl (by rw [← e]; exact h2)) fun h2 => .inr (by omega)
/-- The last items were taken away. -/
theorem Gh.cut (h : Mh w g d f) (hB : ∀ k, Sh g d k → Bd ≤ k) (n : Nat) (hn : n ≤ d.A.length) : Gh Bd g d w { d with A := d.A.take n } f (w.setCell ⟨g, 0, none⟩ (.slice d.ka n d.kc)) := by
  have hl : (d.A.take n).length = n := by rw [List.length_take]; omega
  refine Gh.head (d1 := { d with A := d.A.take n }) h hB (ButS.refl _ _ _) (fun _ _ _ _ => rfl) rfl ?_ (fun k hk => .inl hk) _ (by show _ = Value.slice d.ka (d.A.take n).length d.kc; rw [hl])
  show w.ownsRow 0 24 3 (.slice d.ka (d.A.take n).length d.kc) (d.A.take n).length (itc (d.A.take n))
  rw [hl]
  refine ⟨by rw [itc_len, hl], ?_⟩
  rcases h.rk.2 with ⟨e, e2⟩ | ⟨b, cap, cur, e, hb, hx, hc, hm, hs, ht⟩
  · rw [e2] at hn
    simp only [Value.slice.injEq] at e
    exact .inl ⟨by rw [e.1, e.2.2, show n = 0 by omega], by omega⟩
  · simp only [Value.slice.injEq, true_and] at e
    refine .inr ⟨b, cap, cur, by rw [e.1, e.2], hb, hx, by omega, hm, hs, ?_⟩
    rw [← itc_take, ← ht, List.take_take, Nat.min_eq_left (Nat.mul_le_mul_right _ hn)]
theorem Gh.notin {g0 : Nat} (h : Mh w g d f) (h0 : w.heap.size ≤ g0) : ¬ Sh g d g0 := fun ⟨i, hi⟩ => by
  have := h.inn i g0 hi
  omega
end
end Go.Proofs.Ytepdibnbnhkpnaa
