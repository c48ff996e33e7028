/-
 The program's store in memory: its block, its row of slots, its entries; and what each step leaves.
-/
import Derived.Test.YtmpajgaanghpoaaQA
namespace Go.Proofs.Ytmpajgaanghpoaa
open Go.RowKit
set_option maxRecDepth 100000
set_option linter.unusedSimpArgs false
set_option linter.unusedVariables false

def hdp (mo fr ln bt : Int) (a : Option Addr) (n c : Nat) : Array Value := #[.int .i64 mo, .slice a n c, .int .i64 fr, .int .i64 ln, .int .i64 bt]
/-- The blocks of a store. -/
def Sp (g : Nat) (a : Option Addr) (T : List Sn) (k : Nat) : Prop := k = g ∨ (∃ x, a = some x ∧ x.block = k) ∨ ∃ i, i < T.length ∧ EB (T.getD i zSn).e (T.getD i zSn).d k
structure Mp (w : World) (g : Nat) (a : Option Addr) (c : Nat) (T : List Sn) (mo fr ln bt : Int) : Prop where
 bx : Bx w g (hdp mo fr ln bt a T.length c) 71
 row : w.ownsRow 0 75 44 (.slice a T.length c) T.length (T.flatMap sll)
 en : ∀ i, i < T.length → EnI w (T.getD i zSn).e (T.getD i zSn).d
 dg : ∀ x, a = some x → x.block ≠ g
 de : ∀ i k, i < T.length → EB (T.getD i zSn).e (T.getD i zSn).d k → k ≠ g ∧ ∀ x, a = some x → x.block ≠ k
section
variable {w w' : World} {g : Nat} {a : Option Addr} {c : Nat} {T : List Sn} {mo fr ln bt : Int}
theorem Mp.inn (h : Mp w g a c T mo fr ln bt) : ∀ k, Sp g a T k → k < w.heap.size := fun k hk => by
 rcases hk with rfl | ⟨x, hx, rfl⟩ | ⟨i, hi, hk⟩
 ·exact h.bx.lt
 ·exact (h.row.lt x.block (by rw [hx]; rfl)).2
 ·exact (h.en i hi).lt k hk
theorem Mp.same (h : Mp w g a c T mo fr ln bt) (hs : ∀ k, Sp g a T k → w'.heap[k]? = w.heap[k]?) : Mp w' g a c T mo fr ln bt :=
 ⟨(hs g (.inl rfl)).trans h.bx, own_same h.row fun x hx => hs _ (.inr (.inl ⟨x, hx, rfl⟩)), fun i hi => (h.en i hi).same fun k hk => hs k (.inr (.inr ⟨i, hi, hk⟩)), h.dg, h.de⟩
theorem Mp.below (h : Mp w g a c T mo fr ln bt) (hb : Below w.heap.size w w') : Mp w' g a c T mo fr ln bt := h.same fun k hk => hb.block k (h.inn k hk)
theorem Mp.rg (h : Mp w g a c T mo fr ln bt) {i : Nat} (hi : i < T.length) : ∃ b, a = some ⟨b, 0, none⟩ ∧ w.rangeAt b (0 + i * 44) (sll (T.getD i zSn)) := by
 obtain ⟨a2, c2, e, hcs, -⟩ := own_cs h.row
 obtain ⟨b, off, e2, -, hr⟩ := fl_range sll sl_len (by omega) zSn hcs hi
 rcases h.row.2 with ⟨e0, -⟩ | ⟨g2, cap, cur, e0, -⟩
 ·simp only [Value.slice.injEq] at e0 e
  rw [e2] at e
  rw [e.1] at e0
  cases e0.1
 ·simp only [Value.slice.injEq] at e0 e
  refine ⟨g2, e0.1, ?_⟩
  rw [e0.1, e2] at e
  have e3 := e.1
  simp only [Option.some.injEq, Addr.mk.injEq, and_true] at e3
  obtain ⟨rfl, rfl⟩ := e3
  exact hr
end
/-- From w to w' the store became another one; only its blocks, and new ones, were written. -/
structure Gm (Bd g : Nat) (a : Option Addr) (T : List Sn) (w : World) (a' : Option Addr) (c' : Nat) (T' : List Sn) (mo fr ln bt : Int) (w' : World) : Prop where
 mem : Mp w' g a' c' T' mo fr ln bt
 sub : ∀ k, Sp g a' T' k → Sp g a T k ∨ w.heap.size ≤ k
 but : ButS Bd (Sp g a T) w w'
section
variable {w w1 w2 : World} {Bd g : Nat} {a a1 a2 : Option Addr} {c c1 c2 : Nat} {T T1 T2 : List Sn} {mo mo1 mo2 fr ln bt fr1 ln1 bt1 fr2 ln2 bt2 : Int}
theorem Gm.refl (h : Mp w g a c T mo fr ln bt) : Gm Bd g a T w a c T mo fr ln bt w := ⟨h, fun k hk => .inl hk, ButS.refl _ _ _⟩
theorem Gm.trans (h : Gm Bd g a T w a1 c1 T1 mo1 fr1 ln1 bt1 w1) (k : Gm Bd g a1 T1 w1 a2 c2 T2 mo2 fr2 ln2 bt2 w2) : Gm Bd g a T w a2 c2 T2 mo2 fr2 ln2 bt2 w2 :=
 ⟨k.mem, fun x hx => (k.sub x hx).elim (h.sub x) (fun h2 => .inr (Nat.le_trans h.but.1.size h2)), h.but.trans k.but h.sub⟩
theorem Gm.base (h : Gm Bd g a T w a1 c1 T1 mo1 fr1 ln1 bt1 w1) (hB : ∀ k, Sp g a T k → Bd ≤ k) (hw : Bd ≤ w.heap.size) : ∀ k, Sp g a1 T1 k → Bd ≤ k := fun k hk => (h.sub k hk).elim (hB k) (Nat.le_trans hw)
theorem Gm.below (h : Mp w g a c T mo fr ln bt) (hb : Below w.heap.size w w1) (hw : Bd ≤ w.heap.size) : Gm Bd g a T w a c T mo fr ln bt w1 := ⟨h.below hb, fun k hk => .inl hk, ButS.of_below hb hw⟩
/-- A number of the store's block is written. -/
theorem Gm.num (h : Mp w g a c T mo fr ln bt) (hB : ∀ k, Sp g a T k → Bd ≤ k) (i : Nat) (v : Int) (fr1 ln1 bt1 : Int) (hi : i < 5) (hc : (hdp mo fr ln bt a T.length c).setIfInBounds i (.int .i64 v) = hdp mo fr1 ln1 bt1 a T.length c) : ∃ V, (Instr.storeAt 3 (.pointer (some ⟨g, i, none⟩)) (.int .i64 v)).run Try.prog w = .ok () V ∧ Gm Bd g a T w a c T mo fr1 ln1 bt1 V := by
 obtain ⟨V, hst, hX, hbt⟩ := st_fld (i := i) (ty := 3) (v := .int .i64 v) _ h.bx hi hc rfl (by kernel_rfl)
 refine ⟨V, hst, ⟨hX, own_same h.row fun x hx => hbt.2 _ (h.inn _ (.inr (.inl ⟨x, hx, rfl⟩))) (h.dg x hx), fun j hj => (h.en j hj).same fun k hk => hbt.2 k ((h.en j hj).lt k hk) (h.de j k hj hk).1, h.dg, h.de⟩, fun k hk => .inl hk, hbt.1.mono (hB g (.inl rfl)), fun k hk hn => hbt.2 k hk fun e => hn (.inl e)⟩
/-- Part of a slot is written. -/
theorem Gm.el (h : Mp w g a c T mo fr ln bt) (hB : ∀ k, Sp g a T k → Bd ≤ k) (hw : Bd ≤ w.heap.size) (hb : Below w.heap.size w w1) {b : Nat} (ha : a = some ⟨b, 0, none⟩) {i o : Nat} (hi : i < T.length) {y : Sn} {vs : List Value} (ho : o + vs.length ≤ 44)
  (hy : (sll (T.getD i zSn)).take o ++ vs ++ (sll (T.getD i zSn)).drop (o + vs.length) = sll y) (he : EnI w1 y.e y.d) (hk : ∀ k, EB y.e y.d k → EB (T.getD i zSn).e (T.getD i zSn).d k ∨ w.heap.size ≤ k) : Gm Bd g a T w a c (T.set i y) mo fr ln bt (w1.setCells b (i * 44 + o) vs) := by
 subst ha
 have h1 := h.below hb
 have hbt : But b w1 (w1.setCells b (i * 44 + o) vs) := but_sets vs _ w1
 have hSb : Sp g (some ⟨b, 0, none⟩) T b := .inr (.inl ⟨_, rfl, rfl⟩)
 have hBS : ButS Bd (Sp g (some ⟨b, 0, none⟩) T) w1 (w1.setCells b (i * 44 + o) vs) := ButS.sets (hB b hSb) hSb vs _ w1
 have hgb : g ≠ b := fun e => h.dg _ rfl e.symm
 have hlen : (T.set i y).length = T.length := List.length_set
 have hyk : ∀ k, EB y.e y.d k → k ≠ g ∧ b ≠ k := fun k hk2 => by
  rcases hk k hk2 with h2 | h2
  ·exact ⟨(h.de i k hi h2).1, (h.de i k hi h2).2 _ rfl⟩
  ·have q1 := h.inn g (.inl rfl)
   have q2 := h.inn b hSb
   exact ⟨by omega, by omega⟩
 have hcase : ∀ (X : Sn → Prop), X y → (∀ j, j < T.length → j ≠ i → X (T.getD j zSn)) → ∀ j, j < (T.set i y).length → X ((T.set i y).getD j zSn) := fun X x1 x2 j hj => by
  rw [hlen] at hj
  by_cases hij : i = j
  ·subst hij; rw [getD_set_eq _ _ _ _ hi]; exact x1
  ·rw [getD_set_ne _ _ _ _ _ hij]; exact x2 j hj (Ne.symm hij)
 refine ⟨⟨?_, ?_, ?_, h.dg, ?_⟩, ?_, (ButS.of_below hb hw).trans' hBS⟩
 ·rw [hlen]
  exact h1.bx.but hbt hgb
 ·rw [hlen]
  exact own_part sll sl_len zSn h1.row hi ho hy
 ·refine hcase (fun x => EnI _ x.e x.d) (he.but hbt fun q => (hyk b q).2 rfl) fun j hj _ => (h1.en j hj).but hbt fun q => (h.de j b hj q).2 _ rfl rfl
 ·intro j k hj hk2
  have := hcase (fun x => ∀ k, EB x.e x.d k → k ≠ g ∧ b ≠ k) hyk (fun j hj _ k q => ⟨(h.de j k hj q).1, (h.de j k hj q).2 _ rfl⟩) j hj k hk2
  exact ⟨this.1, fun x hx => by cases hx; exact this.2⟩
 ·rintro k (rfl | h2 | ⟨j, hj, h2⟩)
  ·exact .inl (.inl rfl)
  ·exact .inl (.inr (.inl h2))
  ·refine hcase (fun x => ∀ k, EB x.e x.d k → Sp g (some ⟨b, 0, none⟩) T k ∨ w.heap.size ≤ k) (fun k q => (hk k q).imp (fun q => .inr (.inr ⟨i, hi, q⟩)) id) (fun j hj _ k q => .inl (.inr (.inr ⟨j, hj, q⟩))) j hj k h2
/-- The store of cells into a slot. -/
theorem st_slA (h : Mp w g a c T mo fr ln bt) {b : Nat} (ha : a = some ⟨b, 0, none⟩) {i o : Nat} (hi : i < T.length) {ty : TypeId} (cells : Array Value) (ho : o + cells.size ≤ 44) (hz : (Try.prog.info? ty).map (·.size) = some cells.size) (h1 : cells.all (·.oneCell') = true) {q : Nat} (hq : q = i * 44 + o) : (Instr.storeAt ty (.pointer (some ⟨b, q, none⟩)) (.agg cells)).run Try.prog w = .ok () (w.setCells b (i * 44 + o) cells.toList) := by
 subst ha
 rw [hq]
 exact run_storeAt_mid (P := Try.prog) w b (i * 44 + o) ty cells (own_there sll sl_len h.row rfl hi ho) hz h1
theorem st_sl1 (h : Mp w g a c T mo fr ln bt) {b : Nat} (ha : a = some ⟨b, 0, none⟩) {i o : Nat} (hi : i < T.length) {ty : TypeId} (v : Value) (ho : o < 44) (hz : (Try.prog.info? ty).map (·.size) = some 1) (h1 : v.oneCell' = true) {q : Nat} (hq : q = i * 44 + o) : (Instr.storeAt ty (.pointer (some ⟨b, q, none⟩)) v).run Try.prog w = .ok () (w.setCells b (i * 44 + o) [v]) := by
 subst ha
 rw [hq]
 obtain ⟨cur, hcur, hsz, -, -⟩ := own_row h.row
 refine run_store_cell hcur ?_ h1 hz
 have := Nat.mul_le_mul_right 44 (show i + 1 ≤ T.length from hi)
 omega
/-- A slot is appended. -/
theorem Gm.push (h : Mp w g a c T mo fr ln bt) (hB : ∀ k, Sp g a T k → Bd ≤ k) (hw : Bd ≤ w.heap.size) (hn : T.length ≤ 100000) :
  ∃ a1 c1 V V2, (Builtin.append_ #[69, 69] 69 #[.slice a T.length c, .slice (some ⟨w.heap.size, 0, none⟩) 1 1]).run Try.prog (w.alloc (.cells (slA zSn) 75)) = .ok (.slice a1 (T.length + 1) c1) V ∧ (Instr.storeAt 69 (.pointer (some ⟨g, 1, none⟩)) (.slice a1 (T.length + 1) c1)).run Try.prog V = .ok () V2 ∧ Gm Bd g a T w a1 c1 (T ++ [zSn]) mo fr ln bt V2 := by
 have hb : Below w.heap.size w (w.alloc (.cells (slA zSn) 75)) := (Below.refl _ w).alloc (Nat.le_refl _) _
 have hX : Bx (w.alloc (.cells (slA zSn) 75)) w.heap.size (slA zSn) 75 := heap_alloc_last w _
 have hsz : (w.alloc (.cells (slA zSn) 75)).heap.size = w.heap.size + 1 := by simp
 generalize w.alloc (.cells (slA zSn) 75) = w1 at *
 have h1 := h.below hb
 obtain ⟨v, V, hr, hO, hg, hat⟩ := app_one (P := Try.prog) (t := 69) (by kernel_rfl) infoSl (by kernel_rfl) (by omega) (by omega) h1.row w.heap.size (sll zSn) (Cs.block hX) rfl (sl_onec zSn) (Nat.zero_le _) hn
 obtain ⟨a1, c1, rfl, -, -⟩ := own_cs hO
 have hat2 : ∀ y, a1 = some y → (∃ x, a = some x ∧ x.block = y.block) ∨ y.block = w1.heap.size := fun y hy => by
  subst hy
  rcases hat with e | e
  ·cases a with
   | none => cases e
   | some x => exact .inl ⟨x, rfl, by simpa [Value.ownBlock] using e.symm⟩
  ·exact .inr (by simpa [Value.ownBlock] using e)
 have hgr : ∀ k, k < w1.heap.size → (∀ x, a = some x → x.block ≠ k) → V.heap[k]? = w1.heap[k]? := fun k hk hx => hg.block k hk fun e => by
  cases a with
  | none => cases e
  | some x => exact hx x rfl (by simpa [Value.ownBlock] using e.symm)
 have hgw : g < w.heap.size := h.bx.lt
 have hXg : Bx V g (hdp mo fr ln bt a T.length c) 71 := (hgr g (by omega) h.dg).trans h1.bx
 have ha1g : ∀ y, a1 = some y → y.block ≠ g := fun y hy => (hat2 y hy).elim (fun ⟨x, hx, e⟩ => by rw [← e]; exact h.dg x hx) fun e => by omega
 obtain ⟨V2, hst, hX2, hbt⟩ := st_fld (i := 1) (ty := 69) (v := .slice a1 (T.length + 1) c1) (hdp mo fr ln bt a1 (T.length + 1) c1) hXg (by show 1 < 5; decide) (by kernel_rfl) rfl (by kernel_rfl)
 have hVs : w1.heap.size ≤ V.heap.size := by obtain ⟨g1, g2, g3, g4, g5⟩ := hg; exact g4
 have hOlt := hO.lt
 have hlen : (T ++ [zSn]).length = T.length + 1 := by simp
 have hcase : ∀ (X : Sn → Prop), X zSn → (∀ j, j < T.length → X (T.getD j zSn)) → ∀ j, j < (T ++ [zSn]).length → X ((T ++ [zSn]).getD j zSn) := fun X x1 x2 j hj => by
  rw [hlen] at hj
  by_cases hij : j < T.length
  ·rw [getD_app_lt _ _ _ _ hij]; exact x2 j hij
  ·obtain rfl : j = T.length := by omega
   rw [getD_app_last]; exact x1
 have hke : ∀ j k, j < T.length → EB (T.getD j zSn).e (T.getD j zSn).d k → V2.heap[k]? = w.heap[k]? := fun j k hj hk => by
  have hlt := (h.en j hj).lt k hk
  have hd := h.de j k hj hk
  rw [hbt.2 k (by omega) hd.1, hgr k (by omega) hd.2, hb.block k hlt]
 refine ⟨a1, c1, V, V2, hr, hst, ⟨⟨?_, ?_, ?_, ?_, ?_⟩, ?_, ?_, ?_⟩⟩
 ·rw [hlen]; exact hX2
 ·rw [hlen, fl_app, show ([zSn] : List Sn).flatMap sll = sll zSn by simp]
  exact own_same hO fun x hx => hbt.2 _ (hOlt x.block (by rw [hx]; rfl)).2 (ha1g x hx)
 ·exact hcase (fun x => EnI V2 x.e x.d) (EnI.z V2) fun j hj => (h.en j hj).same (hke j · hj)
 ·exact ha1g
 ·intro j k hj hk
  refine hcase (fun x => ∀ k, EB x.e x.d k → k ≠ g ∧ ∀ y, a1 = some y → y.block ≠ k) (fun k q => (EB.z q).elim) (fun j hj k q => ⟨(h.de j k hj q).1, fun y hy => ?_⟩) j hj k hk
  have hlt := (h.en j hj).lt k q
  exact (hat2 y hy).elim (fun ⟨x, hx, e⟩ => by rw [← e]; exact (h.de j k hj q).2 x hx) fun e => by omega
 ·rintro k (rfl | ⟨y, hy, rfl⟩ | ⟨j, hj, q⟩)
  ·exact .inl (.inl rfl)
  ·exact (hat2 y hy).elim (fun ⟨x, hx, e⟩ => .inl (.inr (.inl ⟨x, hx, e⟩))) fun e => .inr (by omega)
  ·exact hcase (fun x => ∀ k, EB x.e x.d k → Sp g a T k ∨ w.heap.size ≤ k) (fun k q => (EB.z q).elim) (fun j hj k q => .inl (.inr (.inr ⟨j, hj, q⟩))) j hj k q
 ·have hg2 := hg
  obtain ⟨g1, g2, g3, g4, g5⟩ := hg2
  have hb2 : Below Bd w1 V := ⟨by assumption, by assumption, by assumption, by assumption, fun i hi => g5 i (by omega) fun e => by
   cases a with
   | none => cases e
   | some x =>
    have := hB x.block (.inr (.inl ⟨x, rfl, rfl⟩))
    have e2 : i = x.block := by simpa [Value.ownBlock] using e
    omega⟩
  exact ((hb.mono hw).trans hb2).trans (hbt.1.mono (hB g (.inl rfl)))
 ·intro k hk hn
  rw [hbt.2 k (by omega) fun e => hn (.inl e), hgr k (by omega) fun x hx e => hn (.inr (.inl ⟨x, hx, e⟩)), hb.block k hk]
end
end Go.Proofs.Ytmpajgaanghpoaa
