/-
  The program's cache in memory: its block, its map, its list, its row of keys, its row of free indexes; and what each step leaves.
-/
import Derived.Test.YtjblfpifhbmfoaaCV
import Derived.Test.YtjblfpifhbmfoaaPC
namespace Go.Proofs.Ytjblfpifhbmfoaa
open Go.RowKit
set_option linter.unusedSimpArgs false
set_option linter.unusedVariables false

structure Cd where
  B : Nat
  gl : Nat
  ka : Option Addr
  kc : Nat
  fa : Option Addr
  fc : Nat
  A : List (List Int)
  F : List Int
/-- The block of a cache: its size, the map, the list, the keys, the free indexes. -/
def hdc (z : Nat) (d : Cd) : Array Value := #[.int .i64 z, .map (some d.B), .pointer (some ⟨d.gl, 0, none⟩), .slice d.ka d.A.length d.kc, .slice d.fa d.F.length d.fc]
/-- The blocks of each part. -/
def Pt (g : Nat) (d : Cd) (Sl : Nat → Prop) : Nat → Nat → Prop
  | 0, k => k = g
  | 1, k => k = d.B
  | 2, k => Sl k
  | 3, k => ∃ x, d.ka = some x ∧ x.block = k
  | 4, k => ∃ x, d.fa = some x ∧ x.block = k
  | _, _ => False
structure Mem (w : World) (g z : Nat) (d : Cd) (L : List (List Int × Int)) (m : LM) (Sl : Nat → Prop) : Prop where
  bx : Bx w g (hdc z d) 55
  mp : Mk w d.B L
  ls : RepP w d.gl Sl m
  rk : w.ownsRow 0 34 32 (.slice d.ka d.A.length d.kc) d.A.length (kcells d.A)
  rf : w.ownsRow 0 3 1 (.slice d.fa d.F.length d.fc) d.F.length (icells d.F)
  dis : ∀ i j k, Pt g d Sl i k → Pt g d Sl j k → i = j
section
variable {w w' : World} {g z : Nat} {d : Cd} {L : List (List Int × Int)} {m : LM} {Sl : Nat → Prop}
theorem Mem.inn (h : Mem w g z d L m Sl) : ∀ i k, Pt g d Sl i k → k < w.heap.size
  | 0, k, hk => by
    have e : k = g := hk
    rw [e]; exact h.bx.lt
  | 1, k, hk => by
    have e : k = d.B := hk
    rw [e]; exact h.mp.lt
  | 2, k, hk => list_inn h.ls k hk
  | 3, k, hk => by
    obtain ⟨x, hx, rfl⟩ := hk
    exact (h.rk.lt x.block (by rw [hx]; rfl)).2
  | 4, k, hk => by
    obtain ⟨x, hx, rfl⟩ := hk
    exact (h.rf.lt x.block (by rw [hx]; rfl)).2
theorem Mem.same (h : Mem w g z d L m Sl) (hz : w.heap.size ≤ w'.heap.size) (hs : ∀ i k, Pt g d Sl i k → w'.heap[k]? = w.heap[k]?) : Mem w' g z d L m Sl :=
  { bx := (hs 0 g rfl).trans h.bx
    mp := h.mp.same (hs 1 d.B rfl)
    ls := list_keep h.ls hz fun k hk => hs 2 k hk
    rk := own_same h.rk fun x hx => hs 3 _ ⟨x, hx, rfl⟩
    rf := own_same h.rf fun x hx => hs 4 _ ⟨x, hx, rfl⟩
    dis := h.dis }
theorem Mem.below (h : Mem w g z d L m Sl) (hb : Below w.heap.size w w') : Mem w' g z d L m Sl := h.same hb.size fun i k hk => hb.block k (h.inn i k hk)
theorem Mem.drew (h : Mem w g z d L m Sl) : Mem w.drew g z d L m Sl := h.same (Nat.le_refl _) fun _ _ _ => rfl
end
/-- All blocks of a cache. -/
def Sc (g : Nat) (d : Cd) (Sl : Nat → Prop) (k : Nat) : Prop := ∃ i, Pt g d Sl i k
/-- From w to w' a cache's data became d', L', m', Sl'; only its blocks, and new ones, were written. -/
structure Gt (Bd g z : Nat) (d : Cd) (Sl : Nat → Prop) (w : World) (d' : Cd) (L' : List (List Int × Int)) (m' : LM) (Sl' : Nat → Prop) (w' : World) : Prop where
  mem : Mem w' g z d' L' m' Sl'
  sub : ∀ k, Sc g d' Sl' k → Sc g d Sl k ∨ w.heap.size ≤ k
  but : ButS Bd (Sc g d Sl) w w'
section
variable {Bd g z : Nat} {d d1 d2 : Cd} {L L1 L2 : List (List Int × Int)} {m m1 m2 : LM} {Sl Sl1 Sl2 : Nat → Prop} {w w1 w2 : World}
theorem Gt.refl (h : Mem w g z d L m Sl) : Gt Bd g z d Sl w d L m Sl w := ⟨h, fun k hk => .inl hk, ButS.refl _ _ _⟩
theorem Gt.trans (h : Gt Bd g z d Sl w d1 L1 m1 Sl1 w1) (k : Gt Bd g z d1 Sl1 w1 d2 L2 m2 Sl2 w2) : Gt Bd g z d Sl w d2 L2 m2 Sl2 w2 :=
  ⟨k.mem, fun x hx => (k.sub x hx).elim (h.sub x) (fun h2 => .inr (Nat.le_trans h.but.1.size h2)), h.but.trans k.but h.sub⟩
theorem Gt.base (h : Gt Bd g z d Sl w d1 L1 m1 Sl1 w1) (hB : ∀ k, Sc g d Sl k → Bd ≤ k) (hw : Bd ≤ w.heap.size) : ∀ k, Sc g d1 Sl1 k → Bd ≤ k := fun k hk => (h.sub k hk).elim (hB k) (Nat.le_trans hw)
theorem Gt.size (h : Gt Bd g z d Sl w d1 L1 m1 Sl1 w1) (hw : Bd ≤ w.heap.size) : Bd ≤ w1.heap.size := Nat.le_trans hw h.but.1.size
theorem Gt.below (h : Mem w g z d L m Sl) (hb : Below w.heap.size w w1) (hw : Bd ≤ w.heap.size) : Gt Bd g z d Sl w d L m Sl w1 := ⟨h.below hb, fun k hk => .inl hk, ButS.of_below hb hw⟩
/-- New blocks belong to one part. -/
theorem parts {n : Nat} (hin : ∀ i k, Pt g d Sl i k → k < w.heap.size) (hd : ∀ i j k, Pt g d Sl i k → Pt g d Sl j k → i = j) (hp : ∀ j k, Pt g d1 Sl1 j k → Pt g d Sl j k ∨ (w.heap.size ≤ k ∧ j = n)) : ∀ i j k, Pt g d1 Sl1 i k → Pt g d1 Sl1 j k → i = j := fun i j k hi hj => by
  rcases hp i k hi with h1 | h1 <;> rcases hp j k hj with h2 | h2
  · exact hd i j k h1 h2
  · have := hin i k h1
    omega
  · have := hin j k h2
    omega
  · rw [h1.2, h2.2]
/-- The list was changed. -/
theorem Gt.list (h : Mem w g z d L m Sl) (hu : Upd RepP d.gl Bd Sl m1 w w1) : ∃ Sl1, Gt Bd g z d Sl w d L m1 Sl1 w1 := by
  obtain ⟨Sl1, hr, hs, hb⟩ := hu
  have hp : ∀ j k, Pt g d Sl1 j k → Pt g d Sl j k ∨ (w.heap.size ≤ k ∧ j = 2)
    | 0, k, hk => .inl hk
    | 1, k, hk => .inl hk
    | 2, k, hk => (hs k hk).imp id fun h => ⟨h, rfl⟩
    | 3, k, hk => .inl hk
    | 4, k, hk => .inl hk
    | _ + 5, k, hk => hk.elim
  have hk : ∀ i k, i ≠ 2 → Pt g d Sl i k → w1.heap[k]? = w.heap[k]? := fun i k hi hk => hb.2 k (h.inn i k hk) fun h2 => hi (h.dis i 2 k hk h2)
  refine ⟨Sl1, ⟨(hk 0 g (by omega) rfl).trans h.bx, h.mp.same (hk 1 d.B (by omega) rfl), hr, own_same h.rk fun x hx => hk 3 _ (by omega) ⟨x, hx, rfl⟩, own_same h.rf fun x hx => hk 4 _ (by omega) ⟨x, hx, rfl⟩, parts h.inn h.dis hp⟩, ?_, hb.1, fun k hk hn => hb.2 k hk fun h2 => hn ⟨2, h2⟩⟩
  rintro k ⟨j, hj⟩
  exact (hp j k hj).imp (fun h => ⟨j, h⟩) (·.1)
/-- The map was changed. -/
theorem Gt.map (h : Mem w g z d L m Sl) (hB : Bd ≤ d.B) (hm : Mk w1 d.B L1) (hg : w.grownBy w1 (some d.B)) : Gt Bd g z d Sl w d L1 m Sl w1 := by
  obtain ⟨h1, h2, h3, h4, h5⟩ := hg
  have hk : ∀ i k, i ≠ 1 → Pt g d Sl i k → w1.heap[k]? = w.heap[k]? := fun i k hi hk => h5 k (h.inn i k hk) fun e => by
    rw [Option.some.injEq] at e
    exact hi (h.dis i 1 k hk e)
  exact ⟨⟨(hk 0 g (by omega) rfl).trans h.bx, hm, list_keep h.ls h4 fun k hs => hk 2 k (by omega) hs, own_same h.rk fun x hx => hk 3 _ (by omega) ⟨x, hx, rfl⟩, own_same h.rf fun x hx => hk 4 _ (by omega) ⟨x, hx, rfl⟩, h.dis⟩, fun k hk => .inl hk,
    ⟨by assumption, by assumption, by assumption, by assumption, fun i hi => h5 i (Nat.lt_of_lt_of_le hi (Nat.le_trans hB (Nat.le_of_lt h.mp.lt))) (fun e => by rw [Option.some.injEq] at e; omega)⟩, fun i hi hn => h5 i hi fun e => hn ⟨1, by rw [Option.some.injEq] at e; exact e⟩⟩
theorem ButS.sets {B b : Nat} {S : Nat → Prop} (hB : B ≤ b) (hS : S b) : ∀ (vs : List Value) (o : Nat) (w : World), ButS B S w (w.setCells b o vs)
  | [], o, w => ButS.refl _ _ _
  | v :: r, o, w => (ButS.setCell w b o v hB hS).trans' (ButS.sets hB hS r (o + 1) _)
theorem own_sets {B e s n c b : Nat} : ∀ (vs : List Value) (o : Nat) (w : World) (xs : List Value), w.ownsRow B e s (.slice (some ⟨b, 0, none⟩) n c) n xs → o + vs.length ≤ xs.length → (w.setCells b o vs).ownsRow B e s (.slice (some ⟨b, 0, none⟩) n c) n (xs.take o ++ vs ++ xs.drop (o + vs.length))
  | [], o, w, xs, h, _ => by simpa [World.setCells] using h
  | v :: r, o, w, xs, h, hl => by
    rw [List.length_cons] at hl
    have h1 := own_sets r (o + 1) _ _ (own_set h o v (by omega)) (by rw [List.length_set]; omega)
    rw [World.setCells]
    have e : (xs.set o v).take (o + 1) ++ r ++ (xs.set o v).drop (o + 1 + r.length) = xs.take o ++ v :: r ++ xs.drop (o + (v :: r).length) := by
      rw [List.drop_set_of_lt (by omega), List.take_set, List.length_cons, show o + (r.length + 1) = o + 1 + r.length by omega]
      have ho : o < xs.length := by omega
      rw [List.take_add_one, List.getElem?_eq_getElem ho, Option.toList_some, List.set_append_right _ _ (by rw [List.length_take]; omega), List.length_take, Nat.min_eq_left (by omega), Nat.sub_self, List.set_cons_zero]
      simp
    rw [e] at h1
    exact h1
theorem kcells_set (A : List (List Int)) (h : Kc A) (i : Nat) (hi : i < A.length) (k : List Int) : (kcells A).take (i * 32) ++ k.map (Value.int .u8) ++ (kcells A).drop (i * 32 + 32) = kcells (A.set i k) := by
  rw [kcells_take A h, show i * 32 + 32 = (i + 1) * 32 by omega, kcells_drop A h, List.set_eq_take_append_cons_drop, if_pos hi, kcells_app]
  show _ = kcells (A.take i) ++ (k.map (Value.int .u8) ++ kcells (A.drop (i + 1)))
  rw [List.append_assoc]
/-- 'append' of one element to a row of the call's own: where the new row lies. -/
theorem app_one {P : Program} {t e s bytes : Nat} {v0 : Value} (hu : P.underlying t = some (.slice e)) (hinfo : (P.info? e).map (fun i => (i.zero, i.size, i.bytes)) = some (some v0, s, bytes)) (hzs : v0.cells.size = s) (hs : 0 < s) (hby : bytes ≤ 1000)
    {B n : Nat} {v : Value} {xs : List Value} (hO : w.ownsRow B e s v n xs) (b : Nat) (ys : List Value) (hP : Cs w (some ⟨b, 0, none⟩) ys) (hl : ys.length = s) (h1 : ∀ u ∈ ys, u.oneCell' = true) (hB : B ≤ w.heap.size) (hn : n ≤ 100000) :
    ∃ v' w', (Builtin.append_ #[t, t] t #[v, .slice (some ⟨b, 0, none⟩) 1 1]).run P w = .ok v' w' ∧ w'.ownsRow B e s v' (n + 1) (xs ++ ys) ∧ w.grownBy w' v.ownBlock ∧ (v'.ownBlock = v.ownBlock ∨ v'.ownBlock = some w.heap.size) := by
  obtain ⟨i0, hi, hz0, hz1, hz2⟩ := info_parts hinfo
  obtain ⟨v', w', hr, h2, h3, -, h4⟩ := run_append_own_at (P := P) w B t t e i0 v0 s bytes hu hi hz0 hz1 hz2 hzs hs v n xs hO ⟨b, 0, none⟩ 1 1 ys (by omega) (fun j u hj => by
    obtain ⟨b2, off2, e2, -, hc⟩ := hP j u hj
    simp only [Option.some.injEq, Addr.mk.injEq, and_true] at e2
    obtain ⟨rfl, rfl⟩ := e2
    rw [Addr.add_mid]
    exact hc) h1 (by unfold maxLen; omega) (by have := Nat.mul_le_mul (show n + 1 ≤ 100001 by omega) hby; omega) hB
  exact ⟨v', w', hr, h2, h3, h4⟩
theorem own_some {q : Option Addr} {n c k : Nat} (e : (Value.slice q n c).ownBlock = some k) : ∃ x, q = some x ∧ x.block = k := by
  cases q with
  | none => cases e
  | some x => exact ⟨x, rfl, by simpa [Value.ownBlock] using e⟩
theorem own_where {a q : Option Addr} {n c n2 c2 K : Nat} (ha : (Value.slice a n c).ownBlock = (Value.slice q n2 c2).ownBlock ∨ (Value.slice a n c).ownBlock = some K) (y : Addr) (hy : a = some y) : (∃ x, q = some x ∧ x.block = y.block) ∨ y.block = K := by
  subst hy
  rcases ha with e | e
  · exact .inl (own_some e.symm)
  · exact .inr (by simpa [Value.ownBlock] using e)
/-- A cell of a cache's block was written, a row of it perhaps before. -/
theorem Gt.head (h : Mem w g z d L m Sl) (hB : ∀ k, Sc g d Sl k → Bd ≤ k) {V : World} (hb : ButS Bd (Sc g d Sl) w V) (h0 : ∀ j k, j ≤ 2 → Pt g d Sl j k → V.heap[k]? = w.heap[k]?) (e1 : d1.B = d.B) (e2 : d1.gl = d.gl)
    (r3 : V.ownsRow 0 34 32 (.slice d1.ka d1.A.length d1.kc) d1.A.length (kcells d1.A)) (r4 : V.ownsRow 0 3 1 (.slice d1.fa d1.F.length d1.fc) d1.F.length (icells d1.F)) {n : Nat} (hp : ∀ j k, 3 ≤ j → Pt g d1 Sl j k → Pt g d Sl j k ∨ (w.heap.size ≤ k ∧ j = n)) (i : Nat) (v : Value)
    (hc : hdc z d1 = (hdc z d).setIfInBounds i v) : Gt Bd g z d Sl w d1 L m Sl (V.setCell ⟨g, i, none⟩ v) := by
  have hp2 : ∀ j k, Pt g d1 Sl j k → Pt g d Sl j k ∨ (w.heap.size ≤ k ∧ j = n)
    | 0, k, hk => .inl hk
    | 1, k, hk => .inl (show k = d.B from e1 ▸ hk)
    | 2, k, hk => .inl hk
    | j + 3, k, hk => hp (j + 3) k (by omega) hk
  have hdis := parts h.inn h.dis hp2
  have hgw := h.bx.lt
  have hgV : g < V.heap.size := Nat.lt_of_lt_of_le hgw hb.1.size
  have hset : ∀ j k, j ≠ 0 → Pt g d1 Sl j k → (V.setCell ⟨g, i, none⟩ v).heap[k]? = V.heap[k]? := fun j k hj hk => heap_setCell_other V ⟨g, i, none⟩ k v fun e => hj (hdis j 0 k hk e)
  have hsz : (V.setCell ⟨g, i, none⟩ v).heap.size = V.heap.size := by simp
  refine ⟨⟨?_, ?_, ?_, own_same r3 fun x hx => hset 3 _ (by omega) ⟨x, hx, rfl⟩, own_same r4 fun x hx => hset 4 _ (by omega) ⟨x, hx, rfl⟩, hdis⟩, ?_, hb.trans' (ButS.setCell V g i v (hB g ⟨0, rfl⟩) ⟨0, rfl⟩)⟩
  · rw [hc]
    exact Bx.setC ((h0 0 g (by omega) rfl).trans h.bx : Bx V g (hdc z d) 55) v
  · rw [e1]
    exact h.mp.same ((hset 1 _ (by omega) e1.symm).trans (h0 1 _ (by omega) rfl))
  · rw [e2]
    exact list_keep h.ls (by rw [hsz]; exact hb.1.size) fun k hk => (hset 2 k (by omega) hk).trans (h0 2 k (by omega) hk)
  · rintro k ⟨j, hj⟩
    exact (hp2 j k hj).imp (fun h => ⟨j, h⟩) (·.1)
/-- What 'append' to one of a cache's rows leaves. -/
theorem Gt.grown (h : Mem w g z d L m Sl) (hB : ∀ k, Sc g d Sl k → Bd ≤ k) (hw : Bd ≤ w.heap.size) (hb : Below w.heap.size w w1) {row : Option Nat} (n : Nat) (hn : ∀ k, row = some k → Pt g d Sl n k) (hg : w1.grownBy w2 row) : ButS Bd (Sc g d Sl) w w2 ∧ ∀ j k, j ≠ n → Pt g d Sl j k → w2.heap[k]? = w.heap[k]? := by
  obtain ⟨g1, g2, g3, g4, g5⟩ := hg
  have hs := hb.size
  have hx : ∀ k, k < w.heap.size → ¬ Pt g d Sl n k → w2.heap[k]? = w.heap[k]? := fun k hk hn2 => (g5 k (by omega) fun e => hn2 (hn k e.symm)).trans (hb.block k hk)
  have hb2 : Below Bd w1 w2 := ⟨by assumption, by assumption, by assumption, by assumption, fun i hi => g5 i (by omega) fun e => by
    have := hB i ⟨n, hn i e.symm⟩
    omega⟩
  exact ⟨⟨(hb.mono hw).trans hb2, fun k hk hn2 => hx k hk fun h2 => hn2 ⟨n, h2⟩⟩, fun j k hj hk => hx k (h.inn j k hk) fun h2 => hj (h.dis j n k hk h2)⟩
/-- A key was appended, and the slice of keys stored. -/
theorem Gt.pushA (h : Mem w g z d L m Sl) (hB : ∀ k, Sc g d Sl k → Bd ≤ k) (hw : Bd ≤ w.heap.size) (hb : Below w.heap.size w w1) {v : Value} {k : List Int} (hO : w2.ownsRow 0 34 32 v (d.A.length + 1) (kcells (d.A ++ [k]))) (hg : w1.grownBy w2 (Value.slice d.ka d.A.length d.kc).ownBlock) (ha : v.ownBlock = (Value.slice d.ka d.A.length d.kc).ownBlock ∨ v.ownBlock = some w1.heap.size) :
    ∃ a c, v = .slice a (d.A ++ [k]).length c ∧ Gt Bd g z d Sl w { d with ka := a, kc := c, A := d.A ++ [k] } L m Sl (w2.setCell ⟨g, 3, none⟩ v) := by
  obtain ⟨a, c, rfl, -, -⟩ := own_cs hO
  have hl : d.A.length + 1 = (d.A ++ [k]).length := by simp
  rw [hl] at hO ha ⊢
  have hs := hb.size
  obtain ⟨hb2, hk⟩ := Gt.grown h hB hw hb 3 (fun k e => own_some e) hg
  refine ⟨a, c, rfl, Gt.head (n := 3) (d1 := { d with ka := a, kc := c, A := d.A ++ [k] }) h hB hb2 (fun j k hj => hk j k (by omega)) rfl rfl hO (own_same h.rf fun x hx => hk 4 _ (by omega) ⟨x, hx, rfl⟩) ?_ 3 _ rfl⟩
  rintro j x hj hx
  match j, hj, hx with
  | 3, _, ⟨y, hy, e⟩ => exact (own_where ha y hy).elim (fun h2 => .inl (by rw [← e]; exact h2)) fun h2 => .inr ⟨by omega, rfl⟩
  | 4, _, hx => exact .inl hx
  | j + 5, _, hx => exact hx.elim
/-- A free index was appended, and the slice of free indexes stored. -/
theorem Gt.pushF (h : Mem w g z d L m Sl) (hB : ∀ k, Sc g d Sl k → Bd ≤ k) (hw : Bd ≤ w.heap.size) (hb : Below w.heap.size w w1) {v : Value} {k : Int} (hO : w2.ownsRow 0 3 1 v (d.F.length + 1) (icells (d.F ++ [k]))) (hg : w1.grownBy w2 (Value.slice d.fa d.F.length d.fc).ownBlock) (ha : v.ownBlock = (Value.slice d.fa d.F.length d.fc).ownBlock ∨ v.ownBlock = some w1.heap.size) :
    ∃ a c, v = .slice a (d.F ++ [k]).length c ∧ Gt Bd g z d Sl w { d with fa := a, fc := c, F := d.F ++ [k] } L m Sl (w2.setCell ⟨g, 4, none⟩ v) := by
  obtain ⟨a, c, rfl, -, -⟩ := own_cs hO
  have hl : d.F.length + 1 = (d.F ++ [k]).length := by simp
  rw [hl] at hO ha ⊢
  have hs := hb.size
  obtain ⟨hb2, hk⟩ := Gt.grown h hB hw hb 4 (fun k e => own_some e) hg
  refine ⟨a, c, rfl, Gt.head (n := 4) (d1 := { d with fa := a, fc := c, F := d.F ++ [k] }) h hB hb2 (fun j k hj => hk j k (by omega)) rfl rfl (own_same h.rk fun x hx => hk 3 _ (by omega) ⟨x, hx, rfl⟩) hO ?_ 4 _ rfl⟩
  rintro j x hj hx
  match j, hj, hx with
  | 3, _, hx => exact .inl hx
  | 4, _, ⟨y, hy, e⟩ => exact (own_where ha y hy).elim (fun h2 => .inl (by rw [← e]; exact h2)) fun h2 => .inr ⟨by omega, rfl⟩
  | j + 5, _, hx => exact hx.elim
/-- The last free index was taken away. -/
theorem Gt.cutF (h : Mem w g z d L m Sl) (hB : ∀ k, Sc g d Sl k → Bd ≤ k) (n : Nat) (hn : n ≤ d.F.length) : Gt Bd g z d Sl w { d with F := d.F.take n } L m Sl (w.setCell ⟨g, 4, none⟩ (.slice d.fa (d.F.take n).length d.fc)) := by
  have hl : (d.F.take n).length = n := by rw [List.length_take]; omega
  refine Gt.head (n := 4) (d1 := { d with F := d.F.take n }) h hB (ButS.refl _ _ _) (fun _ _ _ _ => rfl) rfl rfl h.rk ?_ (fun j k _ hk => .inl ?_) 4 _ rfl
  · show w.ownsRow 0 3 1 (.slice d.fa (d.F.take n).length d.fc) (d.F.take n).length (icells (d.F.take n))
    rw [hl]
    refine ⟨by rw [icells_len, hl]; omega, ?_⟩
    rcases h.rf.2 with ⟨e, e2⟩ | ⟨b, cap, cur, e, hb, hx, hc, hm, hs, ht⟩
    · rw [e2] at hn
      simp only [Value.slice.injEq] at e
      exact .inl ⟨by rw [e.1, e.2.2, show n = 0 by omega], by omega⟩
    · simp only [Value.slice.injEq, true_and] at e
      refine .inr ⟨b, cap, cur, by rw [e.1, e.2], hb, hx, by omega, hm, hs, ?_⟩
      rw [← icells_take, ← ht, List.take_take, Nat.min_eq_left (by omega)]
  · match j, hk with
    | 0, hk => exact hk
    | 1, hk => exact hk
    | 2, hk => exact hk
    | 3, hk => exact hk
    | 4, hk => exact hk
/-- A key was written over. -/
theorem Gt.setA (h : Mem w g z d L m Sl) (hB : ∀ k, Sc g d Sl k → Bd ≤ k) {b : Nat} (hb : d.ka = some ⟨b, 0, none⟩) (hk : Kc d.A) (i : Nat) (hi : i < d.A.length) {k : List Int} (hk32 : k.length = 32) : Gt Bd g z d Sl w { d with A := d.A.set i k } L m Sl (w.setCells b (i * 32) (k.map (Value.int .u8))) := by
  have h3 : Pt g d Sl 3 b := ⟨_, hb, rfl⟩
  have hbut := ButS.sets (S := fun x => x = b) (hB b ⟨3, h3⟩) rfl (k.map (Value.int .u8)) (i * 32) w
  have hs : ∀ j x, j ≠ 3 → Pt g d Sl j x → (w.setCells b (i * 32) (k.map (Value.int .u8))).heap[x]? = w.heap[x]? := fun j x hj hx => hbut.2 x (h.inn j x hx) fun e => hj (h.dis j 3 x hx (by rw [e]; exact h3))
  have hl : (d.A.set i k).length = d.A.length := List.length_set
  refine ⟨⟨?_, h.mp.same (hs 1 _ (by omega) rfl), list_keep h.ls hbut.1.size fun x hx => hs 2 x (by omega) hx, ?_, own_same h.rf fun x hx => hs 4 _ (by omega) ⟨x, hx, rfl⟩, h.dis⟩, fun x hx => .inl hx, hbut.1, fun x hx hn => hbut.2 x hx fun e => hn ⟨3, by rw [e]; exact h3⟩⟩
  · show Bx _ _ (hdc z { d with A := d.A.set i k }) _
    unfold hdc
    simp only [hl]
    exact (hs 0 g (by omega) rfl).trans h.bx
  · show World.ownsRow _ 0 34 32 (.slice d.ka (d.A.set i k).length d.kc) (d.A.set i k).length (kcells (d.A.set i k))
    have h1 := h.rk
    rw [hl]
    rw [hb] at h1 ⊢
    have h2 := own_sets (k.map (Value.int .u8)) (i * 32) w _ h1 (by rw [List.length_map, hk32, kcells_len _ hk]; omega)
    rw [List.length_map, hk32, kcells_set d.A hk i hi k] at h2
    exact h2
/-- The row of keys lies at the head of a block. -/
theorem Mem.addr (h : Mem w g z d L m Sl) {i : Nat} (hi : i < d.A.length) : ∃ b, d.ka = some ⟨b, 0, none⟩ := by
  rcases h.rk.2 with ⟨-, h0⟩ | ⟨b, cap, cur, e0, -⟩
  · omega
  · simp only [Value.slice.injEq, true_and] at e0
    exact ⟨b, e0.1⟩
theorem Mem.addrF (h : Mem w g z d L m Sl) {i : Nat} (hi : i < d.F.length) : ∃ b, d.fa = some ⟨b, 0, none⟩ := by
  rcases h.rf.2 with ⟨-, h0⟩ | ⟨b, cap, cur, e0, -⟩
  · omega
  · simp only [Value.slice.injEq, true_and] at e0
    exact ⟨b, e0.1⟩
theorem Mem.cs (h : Mem w g z d L m Sl) : Cs w d.ka (kcells d.A) := by
  obtain ⟨a, c, e, hc, -⟩ := own_cs h.rk
  simp only [Value.slice.injEq, true_and] at e
  rw [e.1]
  exact hc
theorem Mem.csF (h : Mem w g z d L m Sl) : Cs w d.fa (icells d.F) := by
  obtain ⟨a, c, e, hc, -⟩ := own_cs h.rf
  simp only [Value.slice.injEq, true_and] at e
  rw [e.1]
  exact hc
/-- The key at a place may be written. -/
theorem Mem.storeA (h : Mem w g z d L m Sl) {b : Nat} (hb : d.ka = some ⟨b, 0, none⟩) {i : Nat} (hi : i < d.A.length) {k : List Int} (hk : k.length = 32) :
    (Instr.storeAt 34 (.pointer (some ⟨b, i * 32, none⟩)) (.agg (w8s k))).run Try.prog w = .ok () (w.setCells b (i * 32) (k.map (Value.int .u8))) := by
  have h1 := h.rk
  rw [hb] at h1
  obtain ⟨cur, hcur, hz, -, -⟩ := own_row h1
  have ht : w.there b (i * 32) 32 := fun j hj => by
    refine ⟨?_, frozen_of_row w b _ _ 34 hcur⟩
    rw [cell_of_row w b _ _ 34 (0, 0) hcur, Array.getElem?_eq_getElem (by omega)]
    rfl
  have := run_storeAt_mid (P := Try.prog) w b (i * 32) 34 (w8s k) (by rw [size_w8s, hk]; exact ht) (by rw [size_w8s, hk]; kernel_rfl) (one_w8s k)
  exact this
end
end Go.Proofs.Ytjblfpifhbmfoaa
