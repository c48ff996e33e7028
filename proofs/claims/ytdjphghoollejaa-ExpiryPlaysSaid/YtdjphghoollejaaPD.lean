/-
 The queue in memory; the program's New, Len, Add, Remove, Expired: contracts.
-/
import Derived.Test.YtdjphghoollejaaPC
namespace Go.Proofs.Ytdjphghoollejaa
attribute [local irreducible] wpList wpQuiet
open Go.RowKit
set_option maxRecDepth 100000
set_option linter.unusedSimpArgs false
set_option linter.unusedVariables false

abbrev qc (B : Nat) (bl : Int) (vH : Value) (sp : Int) (vT : Value) : Array Value := #[.map (some B), .int .i64 bl, vH, .int .i64 sp, vT]
theorem buts_up {Q S : Nat → Prop} {w w' : World} {B0 : Nat} (h : ButS 0 Q w w') (hQ : ∀ j, Q j → S j) (hB : ∀ j, S j → B0 ≤ j) (hw : B0 ≤ w.heap.size) : ButS B0 S w w' := by
 obtain ⟨⟨h1, h2, h3, h4, -⟩, h6⟩ := h
 exact ⟨⟨h1, h2, h3, h4, fun k hk => h6 k (by omega) fun q => by have := hB k (hQ k q); omega⟩, fun k hk hn => h6 k hk fun q => hn (hQ k q)⟩
theorem buts_sub {Q S : Nat → Prop} {w w' : World} (h : ButS 0 Q w w') (hQ : ∀ j, Q j → S j) : ButS 0 S w w' := buts_up h hQ (fun _ _ => Nat.zero_le _) (Nat.zero_le _)
/-- The queue's parts in memory: its block, its map, its two rows, apart from one another. -/
structure Rq (w : World) (g B : Nat) (f : Int → Option Value) (vH vT : Value) (EH ET : List Eo) (bl sp : Int) : Prop where
 bx : Bx w g (qc B bl vH sp vT) 56
 mp : Mf w B f
 rh : Rowen w 0 vH EH
 rt : Rowen w 0 vT ET
 ap : ∀ k, vH.ownBlock = some k → vT.ownBlock = some k → False
def SpQ (g B : Nat) (vH vT : Value) (k : Nat) : Prop := k = g ∨ k = B ∨ vH.ownBlock = some k ∨ vT.ownBlock = some k
/-- From w to W no more has changed than the queue's blocks, and its rows lie where they lay or in new ones. -/
structure StQ (g B : Nat) (vH vT : Value) (w : World) (vH2 vT2 : Value) (W : World) : Prop where
 ch : ButS 0 (SpQ g B vH vT) w W
 ah : vH2.ownBlock = vH.ownBlock ∨ ∃ k, w.heap.size ≤ k ∧ vH2.ownBlock = some k
 al : vT2.ownBlock = vT.ownBlock ∨ ∃ k, w.heap.size ≤ k ∧ vT2.ownBlock = some k
section
variable {w w' W : World} {g B : Nat} {f f2 : Int → Option Value} {vH vT vH2 vT2 : Value} {EH ET EH2 ET2 : List Eo} {bl sp : Int}
theorem Rq.gB (h : Rq w g B f vH vT EH ET bl sp) : g ≠ B := fun e => by
 obtain ⟨es, c, h1⟩ := h.mp.map
 have h2 := h.bx
 unfold Bx at h2
 rw [e, h1] at h2
 cases h2
theorem Rq.hg (h : Rq w g B f vH vT EH ET bl sp) : vH.ownBlock ≠ some g := fun e => row_ne h.rh e h.bx (by decide)
theorem Rq.tg (h : Rq w g B f vH vT EH ET bl sp) : vT.ownBlock ≠ some g := fun e => row_ne h.rt e h.bx (by decide)
theorem Rq.hB (h : Rq w g B f vH vT EH ET bl sp) : vH.ownBlock ≠ some B := fun e => by
 obtain ⟨es, c, h1⟩ := h.mp.map
 exact row_nm h.rh e h1
theorem Rq.tB (h : Rq w g B f vH vT EH ET bl sp) : vT.ownBlock ≠ some B := fun e => by
 obtain ⟨es, c, h1⟩ := h.mp.map
 exact row_nm h.rt e h1
theorem Rq.inn (h : Rq w g B f vH vT EH ET bl sp) : ∀ k, SpQ g B vH vT k → k < w.heap.size := fun k hk => by
 rcases hk with rfl | rfl | hk | hk
 ·exact h.bx.lt
 ·exact h.mp.lt
 ·exact (h.rh.lt k hk).2
 ·exact (h.rt.lt k hk).2
theorem Rq.same (h : Rq w g B f vH vT EH ET bl sp) (hs : ∀ k, SpQ g B vH vT k → w'.heap[k]? = w.heap[k]?) : Rq w' g B f vH vT EH ET bl sp :=
 ⟨(hs g (.inl rfl)).trans h.bx, h.mp.same (hs B (.inr (.inl rfl))), row_same h.rh fun k hk => hs k (.inr (.inr (.inl hk))), row_same h.rt fun k hk => hs k (.inr (.inr (.inr hk))), h.ap⟩
theorem Rq.below (h : Rq w g B f vH vT EH ET bl sp) (hb : Below w.heap.size w w') : Rq w' g B f vH vT EH ET bl sp := h.same fun k hk => hb.block k (h.inn k hk)
theorem StQ.below (hb : Below w.heap.size w W) : StQ g B vH vT w vH vT W := ⟨buts_below hb, .inl rfl, .inl rfl⟩
theorem StQ.tr {w2 : World} {vH3 vT3 : Value} (h : StQ g B vH vT w vH2 vT2 W) (k : StQ g B vH2 vT2 W vH3 vT3 w2) : StQ g B vH vT w vH3 vT3 w2 := by
 have hz := h.ch.1.size
 refine ⟨h.ch.trans k.ch fun x hx => ?_, ?_, ?_⟩
 ·rcases hx with hx | hx | hx | hx
  ·exact .inl (.inl hx)
  ·exact .inl (.inr (.inl hx))
  ·rcases h.ah with h1 | ⟨j, h1, h2⟩
   ·exact .inl (.inr (.inr (.inl (by rw [← h1]; exact hx))))
   ·rw [h2] at hx; cases hx; exact .inr h1
  ·rcases h.al with h1 | ⟨j, h1, h2⟩
   ·exact .inl (.inr (.inr (.inr (by rw [← h1]; exact hx))))
   ·rw [h2] at hx; cases hx; exact .inr h1
 ·rcases k.ah with h1 | ⟨j, h1, h2⟩
  ·rw [h1]; exact h.ah
  ·exact .inr ⟨j, by omega, h2⟩
 ·rcases k.al with h1 | ⟨j, h1, h2⟩
  ·rw [h1]; exact h.al
  ·exact .inr ⟨j, by omega, h2⟩
theorem Rq.map (h : Rq w g B f vH vT EH ET bl sp) (hM : Mf W B f2) (hg : w.grownBy W (some B)) : Rq W g B f2 vH vT EH ET bl sp ∧ StQ g B vH vT w vH vT W := by
 have hk : ∀ k, SpQ g B vH vT k → k ≠ B → W.heap[k]? = w.heap[k]? := fun k hk hn => hg.5 k (h.inn k hk) (by simpa using hn)
 refine ⟨⟨(hk g (.inl rfl) h.gB).trans h.bx, hM, row_same h.rh fun k h1 => hk k (.inr (.inr (.inl h1))) fun e => h.hB (by rw [h1, e]), row_same h.rt fun k h1 => hk k (.inr (.inr (.inr h1))) fun e => h.tB (by rw [h1, e]), h.ap⟩, ⟨buts_grown hg fun j hj => .inr (.inl (by cases hj; rfl)), .inl rfl, .inl rfl⟩⟩
theorem Rq.lH (h : Rq w g B f vH vT EH ET bl sp) (hl : LaO w g 1 (qc B bl vH sp vT) vH EH2 W) : ∃ vH2, Rq W g B f vH2 vT EH2 ET bl sp ∧ StQ g B vH vT w vH2 vT W := by
 obtain ⟨v', h1, h2, h3, h4⟩ := hl
 refine ⟨v', ⟨h1, h.mp.same (h3.2 B h.mp.lt ?_), h2, row_same h.rt fun k hk => h3.2 k (h.rt.lt k hk).2 ?_, fun k hk hk2 => ?_⟩, ⟨buts_sub h3 ?_, h4, .inl rfl⟩⟩
 ·rintro (e | e)
  ·exact h.gB e.symm
  ·exact h.hB e
 ·rintro (e | e)
  ·exact h.tg (by rw [hk, e])
  ·exact h.ap k e hk
 ·rcases h4 with h4 | ⟨j, h5, h6⟩
  ·exact h.ap k (by rw [← h4]; exact hk) hk2
  ·rw [h6] at hk; cases hk
   have := (h.rt.lt _ hk2).2
   omega
 ·rintro j (e | e)
  ·exact .inl e
  ·exact .inr (.inr (.inl e))
theorem Rq.lT (h : Rq w g B f vH vT EH ET bl sp) (hl : LaO w g 3 (qc B bl vH sp vT) vT ET2 W) : ∃ vT2, Rq W g B f vH vT2 EH ET2 bl sp ∧ StQ g B vH vT w vH vT2 W := by
 obtain ⟨v', h1, h2, h3, h4⟩ := hl
 refine ⟨v', ⟨h1, h.mp.same (h3.2 B h.mp.lt ?_), row_same h.rh fun k hk => h3.2 k (h.rh.lt k hk).2 ?_, h2, fun k hk hk2 => ?_⟩, ⟨buts_sub h3 ?_, .inl rfl, h4⟩⟩
 ·rintro (e | e)
  ·exact h.gB e.symm
  ·exact h.tB e
 ·rintro (e | e)
  ·exact h.hg (by rw [hk, e])
  ·exact h.ap k hk e
 ·rcases h4 with h4 | ⟨j, h5, h6⟩
  ·exact h.ap k hk (by rw [← h4]; exact hk2)
  ·rw [h6] at hk2; cases hk2
   have := (h.rh.lt _ hk).2
   omega
 ·rintro j (e | e)
  ·exact .inl e
  ·exact .inr (.inr (.inr e))
end
theorem LaO.but {w W : World} {g o : Nat} {cs : Array Value} {v : Value} {E2 : List Eo} (h : LaO w g o cs v E2 W) (k : Nat) (hk : k < w.heap.size) (h1 : k ≠ g) (h2 : v.ownBlock ≠ some k) : W.heap[k]? = w.heap[k]? := by
 obtain ⟨v', -, -, h3, -⟩ := h
 exact h3.2 k hk fun e => e.elim h1 h2
/-- The queue at block g stands for the elements m. -/
structure Ri (w : World) (g B : Nat) (vH vT : Value) (EH ET : List Eo) (bl sp : Int) (m : List Wt) : Prop where
 rq : Rq w g B (fOf m) vH vT EH ET bl sp
 lh : LsE EH m fun x => x.2.1
 lt : LsE ET m fun x => x.2.2
 srt : SrtW m
 iw : ItW m
def RepQ (w : World) (g : Nat) (S : Nat → Prop) (bl sp : Int) (m : List Wt) : Prop := ∃ B vH vT EH ET, Ri w g B vH vT EH ET bl sp m ∧ S = SpQ g B vH vT
def UpdQ (g B0 : Nat) (S : Nat → Prop) (bl sp : Int) (m : List Wt) (w w' : World) : Prop := ∃ S', RepQ w' g S' bl sp m ∧ (∀ k, S' k → S k ∨ w.heap.size ≤ k) ∧ ButS B0 S w w'
section
variable {w w' : World} {g : Nat} {S : Nat → Prop} {bl sp : Int} {m : List Wt}
theorem RepQ.inn (h : RepQ w g S bl sp m) : ∀ k, S k → k < w.heap.size := by
 obtain ⟨B, vH, vT, EH, ET, h1, rfl⟩ := h
 exact h1.rq.inn
theorem RepQ.same (h : RepQ w g S bl sp m) (hs : ∀ k, S k → w'.heap[k]? = w.heap[k]?) : RepQ w' g S bl sp m := by
 obtain ⟨B, vH, vT, EH, ET, h1, rfl⟩ := h
 exact ⟨B, vH, vT, EH, ET, { h1 with rq := h1.rq.same hs }, rfl⟩
theorem RepQ.below (h : RepQ w g S bl sp m) (hb : Below w.heap.size w w') : RepQ w' g S bl sp m := h.same fun k hk => hb.block k (h.inn k hk)
theorem RepQ.srt (h : RepQ w g S bl sp m) : SrtW m := by
 obtain ⟨B, vH, vT, EH, ET, h1, -⟩ := h
 exact h1.srt
theorem RepQ.iw (h : RepQ w g S bl sp m) : ItW m := by
 obtain ⟨B, vH, vT, EH, ET, h1, -⟩ := h
 exact h1.iw
theorem RepQ.upd (h : RepQ w g S bl sp m) (hb : Below w.heap.size w w') {B0 : Nat} (hw : B0 ≤ w.heap.size) : UpdQ g B0 S bl sp m w w' := ⟨S, h.below hb, fun k hk => .inl hk, ButS.of_below hb hw⟩
theorem StQ.fin {B : Nat} {vH vT vH2 vT2 : Value} {W : World} {EH2 ET2 : List Eo} {m2 : List Wt} (hs : StQ g B vH vT w vH2 vT2 W) (h2 : Ri W g B vH2 vT2 EH2 ET2 bl sp m2) (hS : S = SpQ g B vH vT) {B0 : Nat} (hB : ∀ k, S k → B0 ≤ k) (hw : B0 ≤ w.heap.size) : UpdQ g B0 S bl sp m2 w W := by
 subst hS
 refine ⟨_, ⟨B, vH2, vT2, EH2, ET2, h2, rfl⟩, fun k hk => ?_, buts_up hs.ch (fun j hj => hj) hB hw⟩
 rcases hk with hk | hk | hk | hk
 ·exact .inl (.inl hk)
 ·exact .inl (.inr (.inl hk))
 ·rcases hs.ah with h1 | ⟨j, h1, h3⟩
  ·exact .inl (.inr (.inr (.inl (by rw [← h1]; exact hk))))
  ·rw [h3] at hk; cases hk; exact .inr h1
 ·rcases hs.al with h1 | ⟨j, h1, h3⟩
  ·exact .inl (.inr (.inr (.inr (by rw [← h1]; exact hk))))
  ·rw [h3] at hk; cases hk; exact .inr h1
end
theorem LsE.enw_h {E : List Eo} {m : List Wt} (h : LsE E m fun x => x.2.1) (hm : ItW m) : EnW E := fun e he => by
 obtain ⟨x, hx, rfl⟩ := h.mem.1 he
 exact (hm x hx).1
theorem LsE.enw_t {E : List Eo} {m : List Wt} (h : LsE E m fun x => x.2.2) (hm : ItW m) : EnW E := fun e he => by
 obtain ⟨x, hx, rfl⟩ := h.mem.1 he
 exact (hm x hx).2
theorem look_is (m : List Wt) (k : Int) : lkV (fOf m k) true = .tuple #[pairV ((getW m k).getD (0, 0)), .bool (hasW m k)] := by
 rw [← get_iff]
 unfold fOf
 cases h : getW m k with
 | none => rfl
 | some p => rfl
theorem ex_len {P : Program} {ρ : Operand → Value} {o : Oper} {x : Operand} {t : TypeId} {w : World} {v u : Value} (ho : o.op = .call { callee := .builtin .len, args := #[x], argTypes := #[t] }) (hx : ρ x = v) (hr : (Builtin.len_ #[t] o.type #[v]).run P w = .ok u w) : (execOp ρ o).run P w = .ok (.value u) w := by
 unfold execOp
 simp only [ho, resolve, invoke, builtin, Sem.run_bind, Sem.run_pure, Result.andThen_ok, List.map_toArray, List.map_cons, List.map_nil, hx, hr]
set_option maxRecDepth 100000 in
set_option maxHeartbeats 8000000 in
theorem q_new (bl sp : Int) (w : World) : Calls Try.prog 10 #[.int .i64 bl, .int .i64 sp] w fun e w' => ∃ g S, e = .returned (.pointer (some ⟨g, 0, none⟩)) ∧ RepQ w' g S bl sp [] ∧ (∀ k, S k → w.heap.size ≤ k) ∧ Below w.heap.size w w' := by
 obtain ⟨W1, hW1⟩ : ∃ W, w.alloc (.map #[] 0) = W := ⟨_, rfl⟩
 obtain ⟨W2, hW2⟩ : ∃ W, W1.alloc (.cells (qc w.heap.size bl (.slice none 0 0) sp (.slice none 0 0)) 56) = W := ⟨_, rfl⟩
 have hb1 : Below w.heap.size w W1 := by rw [← hW1]; exact (Below.refl _ w).alloc (Nat.le_refl _) _
 have hb2 : Below W1.heap.size W1 W2 := by rw [← hW2]; exact (Below.refl _ W1).alloc (Nat.le_refl _) _
 have hM1 : Mf W1 w.heap.size (fOf []) := by rw [← hW1]; exact Mf.new w
 have hM2 : Mf W2 w.heap.size (fOf []) := hM1.same (hb2.block _ hM1.lt)
 have hX : Bx W2 W1.heap.size (qc w.heap.size bl (.slice none 0 0) sp (.slice none 0 0)) 56 := by rw [← hW2]; exact heap_alloc_last W1 _
 have hrep : RepQ W2 W1.heap.size (SpQ W1.heap.size w.heap.size (.slice none 0 0) (.slice none 0 0)) bl sp [] := ⟨_, _, _, [], [], ⟨⟨hX, hM2, own_no _ _ _ _, own_no _ _ _ _, fun k h => by cases h⟩, LsE.nil _, LsE.nil _, List.Pairwise.nil, fun x hx => by simp at hx⟩, rfl⟩
 have hsub : ∀ k, SpQ W1.heap.size w.heap.size (.slice none 0 0) (.slice none 0 0) k → w.heap.size ≤ k := fun k hk => by
  rcases hk with rfl | rfl | h | h
  ·exact hb1.size
  ·exact Nat.le_refl _
  ·cases h
  ·cases h
 have HE := Lib.hid (And.intro hrep (And.intro hsub (hb1.trans (hb2.mono hb1.size))))
 clear hrep hsub
 clear hb1 hb2 hM1 hM2 hX
 go_enter Try.func10, Try.ntmps10
 go_upto_region 1 with fail
 apply wp_region_lit
 refine gw_new (by kernel_rfl) (some 5) rfl (.map (some w.heap.size)) W1 (by rw [← hW1]; exact ex_new 51 rfl) ?_
 simp only [pu]
 refine gz5 (.int .i64 bl) (.agg #[.int .i64 bl, .slice none 0 0]) (.int .i64 sp) (.agg #[.int .i64 sp, .slice none 0 0]) (.agg (qc w.heap.size bl (.slice none 0 0) sp (.slice none 0 0))) ?_
 simp only [pu]
 refine run_to rfl (some 11) rfl (.pointer (some ⟨W1.heap.size, 0, none⟩)) W2 (by rw [← hW2]; kernel_rfl) ?_
 simp only [pu]
 refine gz1 (.pointer (some ⟨W1.heap.size, 0, none⟩)) <| wn ?_
 simp only [pu]
 go_wp2_with fail
 go_ret
 exact ⟨W1.heap.size, _, rfl, HE.out⟩
set_option maxRecDepth 100000 in
set_option maxHeartbeats 8000000 in
theorem q_len {w : World} {g : Nat} {S : Nat → Prop} {bl sp : Int} {m : List Wt} (h : RepQ w g S bl sp m) : Calls Try.prog 19 #[.pointer (some ⟨g, 0, none⟩)] w fun e w' => e = .returned (.int .i64 m.length) ∧ w = w' := by
 obtain ⟨B, vH, vT, EH, ET, h, -⟩ := h
 have hX := h.rq.bx
 have HL := Lib.hid (fun ty => h.rq.mp.len h.srt ty)
 clear h
 go_enter Try.func19, Try.ntmps19
 go_upto_region 1 with fail
 refine wl <| gz2 (.pointer (some ⟨g, 0, none⟩)) (.bool false) <| wn ?_
 simp only [pu]
 go_upto_region 3 with fail
 refine wl <| gz3 (.pointer (some ⟨g, 0, none⟩)) (.pointer (some ⟨g, 0, none⟩)) (.pointer (some ⟨g, 0, none⟩)) <| gzl rfl ⟨g, 0, none⟩ (.map (some B)) (hX.load (i := 0) rfl (by kernel_rfl)) <| gzv (.int .i64 m.length) (ex_len rfl (by kernel_rfl) (HL.out _)) <| gz1 (.int .i64 m.length) <|
  wpList_nil ?_
 simp only [pu]
 clear hX HL
 go_wp2_with fail
 go_ret
 exact ⟨rfl, rfl⟩
set_option maxRecDepth 100000 in
set_option maxHeartbeats 8000000 in
theorem q_len0 (w : World) : Calls Try.prog 19 #[.pointer none] w fun e w' => e = .returned (.int .i64 0) ∧ w = w' := by
 go_enter Try.func19, Try.ntmps19
 go_upto_region 1 with fail
 refine wl <| gz2 (.pointer none) (.bool true) <| wn ?_
 simp only [pu]
 go_upto_region 2 with fail
 refine wl <| gz1 (.int .i64 0) <| wn ?_
 simp only [pu]
 go_wp2_with fail
 go_ret
 exact ⟨rfl, rfl⟩
theorem gw_dl {P : Program} {ops : Array Oper} {rest : List Oper} {o : Oper} {a : Act} {w : World} {Q : Exit → Act → World → Prop} (hg : o.guard = none) (hw : Region.wanted o (yielded ops a.tmps) = true) (hd : o.dst = none) (x y : Operand) (t u : TypeId) (ho : o.op = .call { callee := .builtin .delete, args := #[x, y], argTypes := #[t, u] }) (vx vy v : Value) (w2 : World) (hx : a.eval x = vx) (hy : a.eval y = vy) (hr : (Builtin.delete_ #[t, u] o.type #[vx, vy]).run P w = .ok v w2) (k : wpList P ops Q rest a w2) : wpList P ops Q (o :: rest) a w := by
 apply wpList_step
 intro K hK
 rw [if_pos hw, Oper.wp, ex_del x y t u ho vx vy v hx hy hr]
 refine hK _ _ ?_
 rw [hd]
 exact k
set_option maxRecDepth 100000 in
set_option maxHeartbeats 8000000 in
theorem add_old {w : World} {g : Nat} {S : Nat → Prop} {bl sp : Int} {m : List Wt} (h0 : RepQ w g S bl sp m) (id h t : Int) (hh : hasW m id = true) : Calls Try.prog 18 #[.pointer (some ⟨g, 0, none⟩), .int .i64 id, .int .i64 h, .int .i64 t] w fun e w' => e = .returned (.bool false) ∧ Below w.heap.size w w' := by
 obtain ⟨B, vH, vT, EH, ET, h1, -⟩ := h0
 have hX := h1.rq.bx
 have hlk := h1.rq.mp.look id true
 rw [look_is, hh] at hlk
 obtain ⟨P, hP⟩ : ∃ P, (getW m id).getD (0, 0) = P := ⟨_, rfl⟩
 rw [hP] at hlk
 have HLK := Lib.hid hlk
 obtain ⟨V2, hst2, hb2, hX2⟩ := new_bx (c := #[.int .i64 0, .int .i64 0]) (c' := #[.int .i64 P.1, .int .i64 P.2]) (ty := 58) w rfl (by kernel_rfl) (by kernel_rfl)
 have HB2 := Lib.hid hb2
 clear h1 hh hP hlk hb2 hX2
 go_enter Try.func18, Try.ntmps18
 go_upto_region 1 with fail
 refine wl <| gz2 (.pointer (some ⟨g, 0, none⟩)) (.bool false) <| wn ?_
 simp only [pu]
 go_upto_region 3 with fail
 refine wl <| gz3 (.pointer (some ⟨g, 0, none⟩)) (.pointer (some ⟨g, 0, none⟩)) (.pointer (some ⟨g, 0, none⟩)) <| gzl rfl ⟨g, 0, none⟩ (.map (some B)) (hX.load (i := 0) rfl (by kernel_rfl)) <| gz1 (.int .i64 id) <|
  gzv (.tuple #[.agg #[.int .i64 P.1, .int .i64 P.2], .bool true]) (ex_look 51 (.tmp 17) (.tmp 18) true rfl (.map (some B)) (.int .i64 id) _ (by kernel_rfl) (by kernel_rfl) HLK.out) <|
  gz3 (.tuple #[.agg #[.int .i64 P.1, .int .i64 P.2], .bool true]) (.agg #[.int .i64 P.1, .int .i64 P.2]) (.bool true) ?_
 simp only [pu]
 refine run_to rfl (some 9) rfl (.pointer (some ⟨w.heap.size, 0, none⟩)) (w.alloc (.cells #[.int .i64 0, .int .i64 0] 58)) (by kernel_rfl) ?_
 simp only [pu]
 refine gzs rfl (hst2) <| gz1 (.bool true) <| wn ?_
 simp only [pu]
 clear hX HLK hst2
 go_upto_region 4 with fail
 refine wl <| gz1 (.bool true) <| wn ?_
 simp only [pu]
 go_upto_region 5 with fail
 refine wl <| gz1 (.bool false) <| wn ?_
 simp only [pu]
 go_wp2_with fail
 go_ret
 exact ⟨rfl, HB2.out⟩
set_option maxRecDepth 100000 in
set_option maxHeartbeats 8000000 in
theorem add_new {w : World} {g : Nat} {S : Nat → Prop} {bl sp : Int} {m : List Wt} (h0 : RepQ w g S bl sp m) (hl : m.length ≤ 1000) (id h t : Int) (hh : hasW m id = false) (hhi : I64 h) (hti : I64 t) {B0 : Nat} (hB : ∀ j, S j → B0 ≤ j) (hw : B0 ≤ w.heap.size) : Calls Try.prog 18 #[.pointer (some ⟨g, 0, none⟩), .int .i64 id, .int .i64 h, .int .i64 t] w fun e w' => e = .returned (.bool true) ∧ UpdQ g B0 S bl sp (addW m (id, h, t)) w w' := by
 obtain ⟨B, vH, vT, EH, ET, h1, hS⟩ := h0
 have hX := h1.rq.bx
 have hlk := h1.rq.mp.look id true
 rw [look_is, hh] at hlk
 obtain ⟨P, hP⟩ : ∃ P, (getW m id).getD (0, 0) = P := ⟨_, rfl⟩
 rw [hP] at hlk
 have HLK := Lib.hid hlk
 obtain ⟨V2, hst2, hb2, hX2⟩ := new_bx (c := #[.int .i64 0, .int .i64 0]) (c' := #[.int .i64 P.1, .int .i64 P.2]) (ty := 58) w rfl (by kernel_rfl) (by kernel_rfl)
 have HB2 := Lib.hid hb2
 have hAD := add_yes h1.srt (z := (id, h, t)) hh
 have HR2 := Lib.hid (h1.rq.below hb2)
 have hLH := h1.lh.add (z := (id, h, t)) hh hAD
 have hLT := h1.lt.add (z := (id, h, t)) hh hAD
 have hf := fOf_add hAD
 have hiw : ItW (addW m (id, h, t)) := fun x hx => by
  rcases List.mem_cons.1 (hAD.prm.mem_iff.1 hx) with rfl | hx
  ·exact ⟨hhi, hti⟩
  ·exact h1.iw x hx
 have HFIN : Hid (∀ W vH2 vT2, StQ g B vH vT V2 vH2 vT2 W → Rq W g B (updF (fOf m) id (some (pairV (h, t)))) vH2 vT2 (EH.take (cntE EH (h, id)) ++ (h, id) :: EH.drop (cntE EH (h, id))) (ET.take (cntE ET (t, id)) ++ (t, id) :: ET.drop (cntE ET (t, id))) bl sp → UpdQ g B0 S bl sp (addW m (id, h, t)) w W) := Lib.hid fun W vH2 vT2 hs hr => ((StQ.below hb2).tr hs).fin ⟨by rw [← hf]; exact hr, hLH, hLT, hAD.srt, hiw⟩ hS hB hw
 have hlH : EH.length ≤ 9000 := by rw [h1.lh.len]; omega
 have hlT : ET.length ≤ 9000 := by rw [h1.lt.len]; omega
 have HLH : Hid (EH.length ≤ 9000 ∧ SrtE EH) := Lib.hid ⟨hlH, h1.lh.1⟩
 have HLT : Hid (ET.length ≤ 9000 ∧ SrtE ET) := Lib.hid ⟨hlT, h1.lt.1⟩
 clear h1 hS hP hlk hAD hLH hLT hf hiw hlH hlT hh hhi hti hB hw hl hb2 hX2
 generalize fOf m = f at *
 generalize addW m (id, h, t) = m2 at *
 obtain ⟨EH2, hEH2⟩ : ∃ E, EH.take (cntE EH (h, id)) ++ (h, id) :: EH.drop (cntE EH (h, id)) = E := ⟨_, rfl⟩
 obtain ⟨ET2, hET2⟩ : ∃ E, ET.take (cntE ET (t, id)) ++ (t, id) :: ET.drop (cntE ET (t, id)) = E := ⟨_, rfl⟩
 rw [hEH2, hET2] at HFIN
 have HEH2 := Lib.hid hEH2
 have HET2 := Lib.hid hET2
 clear hEH2 hET2
 go_enter Try.func18, Try.ntmps18
 go_upto_region 1 with fail
 refine wl <| gz2 (.pointer (some ⟨g, 0, none⟩)) (.bool false) <| wn ?_
 simp only [pu]
 go_upto_region 3 with fail
 refine wl <| gz3 (.pointer (some ⟨g, 0, none⟩)) (.pointer (some ⟨g, 0, none⟩)) (.pointer (some ⟨g, 0, none⟩)) <| gzl rfl ⟨g, 0, none⟩ (.map (some B)) (hX.load (i := 0) rfl (by kernel_rfl)) <| gz1 (.int .i64 id) <|
  gzv (.tuple #[.agg #[.int .i64 P.1, .int .i64 P.2], .bool false]) (ex_look 51 (.tmp 17) (.tmp 18) true rfl (.map (some B)) (.int .i64 id) _ (by kernel_rfl) (by kernel_rfl) HLK.out) <|
  gz3 (.tuple #[.agg #[.int .i64 P.1, .int .i64 P.2], .bool false]) (.agg #[.int .i64 P.1, .int .i64 P.2]) (.bool false) ?_
 simp only [pu]
 refine run_to rfl (some 9) rfl (.pointer (some ⟨w.heap.size, 0, none⟩)) (w.alloc (.cells #[.int .i64 0, .int .i64 0] 58)) (by kernel_rfl) ?_
 simp only [pu]
 refine gzs rfl (hst2) <| gz1 (.bool false) <| wn ?_
 simp only [pu]
 obtain ⟨g9, hg9⟩ : ∃ g9, w.heap.size = g9 := ⟨_, rfl⟩
 rw [hg9]
 clear hX HLK hst2 hg9
 go_upto_region 4 with fail
 refine wl <| gz1 (.bool false) <| wn ?_
 simp only [pu]
 obtain ⟨V3, hup, hM3, -, hg3⟩ := HR2.out.mp.put id (pairV (h, t))
 have hR3S3 := HR2.out.map hM3 hg3
 have HR3 := Lib.hid hR3S3.1
 have HS3 := Lib.hid hR3S3.2
 have hX2 := HR2.out.bx
 have CA1 := q_ladd (o := 1) HR3.out.bx rfl HR3.out.rh HLH.out.1 HLH.out.2 (h, id)
 rw [HEH2.out] at CA1
 clear hM3 hg3 hR3S3
 go_upto_region 6 with fail
 refine wl <| gz3 (.pointer (some ⟨g, 0, none⟩)) (.pointer (some ⟨g, 0, none⟩)) (.pointer (some ⟨g, 0, none⟩)) <| gzl rfl ⟨g, 0, none⟩ (.map (some B)) (hX2.load (i := 0) rfl (by kernel_rfl)) <| gz4 (.int .i64 id) (.int .i64 h) (.int .i64 t) (.agg #[.int .i64 h, .int .i64 t]) ?_
 simp only [pu]
 refine gw_skip (by kernel_rfl) rfl V3 (ex_put 51 (.tmp 26) (.tmp 27) (.tmp 30) rfl (.map (some B)) (.int .i64 id) (pairV (h, t)) (by kernel_rfl) (by kernel_rfl) (by kernel_rfl) hup) ?_
 apply wpList_nil
 clear hup hX2
 go_upto_region 7 with fail
 refine wl <| gz6 (.pointer (some ⟨g, 0, none⟩)) (.pointer (some ⟨g, 0, none⟩)) (.pointer (some ⟨g, 1, none⟩)) (.int .i64 h) (.int .i64 id) (.agg (enA (h, id))) <| gzc (.tuple #[]) (fun w' => LaO V3 g 1 (qc B bl vH sp vT) vH EH2 w') CA1 (fun V4 hq4 => ?_)
 obtain ⟨vH2, hR4, hS4⟩ := HR3.out.lH hq4
 have CA2 := q_ladd (o := 3) hR4.bx rfl hR4.rt HLT.out.1 HLT.out.2 (t, id)
 rw [HET2.out] at CA2
 have HR4 := Lib.hid hR4
 have HS4 := Lib.hid (HS3.out.tr hS4)
 clear hq4 hR4 hS4 CA1 HS3
 simp only [pu]
 apply wpList_nil
 go_upto_region 8 with fail
 refine wl <| gz6 (.pointer (some ⟨g, 0, none⟩)) (.pointer (some ⟨g, 0, none⟩)) (.pointer (some ⟨g, 3, none⟩)) (.int .i64 t) (.int .i64 id) (.agg (enA (t, id))) <| gzc (.tuple #[]) (fun w' => LaO V4 g 3 (qc B bl vH2 sp vT) vT ET2 w') CA2 (fun V5 hq5 => ?_)
 obtain ⟨vT2, hR5, hS5⟩ := HR4.out.lT hq5
 have HE := Lib.hid (HFIN.out V5 vH2 vT2 (HS4.out.tr hS5) hR5)
 clear hq5 hR5 hS5 CA2 HS4 HR4 HR3 HFIN
 simp only [pu]
 apply wpList_nil
 go_upto_region 9 with fail
 refine wl <| gz1 (.bool true) <| wn ?_
 simp only [pu]
 go_wp2_with fail
 go_ret
 exact ⟨rfl, HE.out⟩
set_option maxRecDepth 100000 in
set_option maxHeartbeats 8000000 in
theorem rem_old {w : World} {g : Nat} {S : Nat → Prop} {bl sp : Int} {m : List Wt} (h0 : RepQ w g S bl sp m) (id : Int) (hh : hasW m id = false) : Calls Try.prog 12 #[.pointer (some ⟨g, 0, none⟩), .int .i64 id] w fun e w' => e = .returned (.bool false) ∧ Below w.heap.size w w' := by
 obtain ⟨B, vH, vT, EH, ET, h1, -⟩ := h0
 have hX := h1.rq.bx
 have hlk := h1.rq.mp.look id true
 rw [look_is, hh] at hlk
 obtain ⟨P, hP⟩ : ∃ P, (getW m id).getD (0, 0) = P := ⟨_, rfl⟩
 rw [hP] at hlk
 have HLK := Lib.hid hlk
 obtain ⟨V2, hst2, hb2, hX2⟩ := new_bx (c := #[.int .i64 0, .int .i64 0]) (c' := #[.int .i64 P.1, .int .i64 P.2]) (ty := 58) w rfl (by kernel_rfl) (by kernel_rfl)
 have HB2 := Lib.hid hb2
 clear h1 hh hP hlk hb2 hX2
 go_enter Try.func12, Try.ntmps12
 go_upto_region 1 with fail
 refine wl <| gz2 (.pointer (some ⟨g, 0, none⟩)) (.bool false) <| wn ?_
 simp only [pu]
 go_upto_region 3 with fail
 refine wl <| gz3 (.pointer (some ⟨g, 0, none⟩)) (.pointer (some ⟨g, 0, none⟩)) (.pointer (some ⟨g, 0, none⟩)) <| gzl rfl ⟨g, 0, none⟩ (.map (some B)) (hX.load (i := 0) rfl (by kernel_rfl)) <| gz1 (.int .i64 id) <|
  gzv (.tuple #[.agg #[.int .i64 P.1, .int .i64 P.2], .bool false]) (ex_look 51 (.tmp 13) (.tmp 14) true rfl (.map (some B)) (.int .i64 id) _ (by kernel_rfl) (by kernel_rfl) HLK.out) <|
  gz3 (.tuple #[.agg #[.int .i64 P.1, .int .i64 P.2], .bool false]) (.agg #[.int .i64 P.1, .int .i64 P.2]) (.bool false) ?_
 simp only [pu]
 refine run_to rfl (some 5) rfl (.pointer (some ⟨w.heap.size, 0, none⟩)) (w.alloc (.cells #[.int .i64 0, .int .i64 0] 58)) (by kernel_rfl) ?_
 simp only [pu]
 refine gzs rfl (hst2) <| gz1 (.bool false) <| wn ?_
 simp only [pu]
 clear hX HLK hst2
 go_upto_region 4 with fail
 refine wl <| gz2 (.bool false) (.bool true) <| wn ?_
 simp only [pu]
 go_upto_region 5 with fail
 refine wl <| gz1 (.bool false) <| wn ?_
 simp only [pu]
 go_wp2_with fail
 go_ret
 exact ⟨rfl, HB2.out⟩
set_option maxRecDepth 100000 in
set_option maxHeartbeats 8000000 in
theorem rem_new {w : World} {g : Nat} {S : Nat → Prop} {bl sp : Int} {m : List Wt} (h0 : RepQ w g S bl sp m) (hl : m.length ≤ 1000) (id : Int) (hh : hasW m id = true) {B0 : Nat} (hB : ∀ j, S j → B0 ≤ j) (hw : B0 ≤ w.heap.size) : Calls Try.prog 12 #[.pointer (some ⟨g, 0, none⟩), .int .i64 id] w fun e w' => e = .returned (.bool true) ∧ UpdQ g B0 S bl sp (remW id m) w w' := by
 obtain ⟨B, vH, vT, EH, ET, h1, hS⟩ := h0
 have hX := h1.rq.bx
 have hRM := rem_yes h1.srt hh
 obtain ⟨x, hx1, hprm, hget⟩ := hRM.prm
 have hlk := h1.rq.mp.look id true
 rw [look_is, hh, hget, Option.getD_some] at hlk
 obtain ⟨hltH, hLH⟩ := h1.lh.rem hx1 hprm
 obtain ⟨hltT, hLT⟩ := h1.lt.rem hx1 hprm
 obtain ⟨P, hP⟩ : ∃ P, x.2 = P := ⟨_, rfl⟩
 rw [hP] at hlk hltH hLH hltT hLT
 have HLK := Lib.hid hlk
 obtain ⟨V2, hst2, hb2, hX2⟩ := new_bx (c := #[.int .i64 0, .int .i64 0]) (c' := #[.int .i64 P.1, .int .i64 P.2]) (ty := 58) w rfl (by kernel_rfl) (by kernel_rfl)
 have HB2 := Lib.hid hb2
 have HR2 := Lib.hid (h1.rq.below hb2)
 have hf := fOf_rem hRM
 have hiw : ItW (remW id m) := fun y hy => h1.iw y (hprm.mem_iff.2 (List.mem_cons_of_mem _ hy))
 have HFIN : Hid (∀ W vH2 vT2, StQ g B vH vT V2 vH2 vT2 W → Rq W g B (updF (fOf m) id none) vH2 vT2 (EH.take (cntE EH (P.1, id)) ++ EH.drop (cntE EH (P.1, id) + 1)) (ET.take (cntE ET (P.2, id)) ++ ET.drop (cntE ET (P.2, id) + 1)) bl sp → UpdQ g B0 S bl sp (remW id m) w W) := Lib.hid fun W vH2 vT2 hs hr => ((StQ.below hb2).tr hs).fin ⟨by rw [← hf]; exact hr, hLH, hLT, hRM.srt, hiw⟩ hS hB hw
 have hlH : EH.length ≤ 9000 := by rw [h1.lh.len]; omega
 have hlT : ET.length ≤ 9000 := by rw [h1.lt.len]; omega
 have HLH : Hid (EH.length ≤ 9000 ∧ SrtE EH ∧ cntE EH (P.1, id) < EH.length) := Lib.hid ⟨hlH, h1.lh.1, hltH⟩
 have HLT : Hid (ET.length ≤ 9000 ∧ SrtE ET ∧ cntE ET (P.2, id) < ET.length) := Lib.hid ⟨hlT, h1.lt.1, hltT⟩
 have HGW : Hid (∀ k, SpQ g B vH vT k → k < w.heap.size) := Lib.hid h1.rq.inn
 clear h1 hS hP hlk hLH hLT hf hiw hlH hlT hh hB hw hl hb2 hRM hprm hget hltH hltT hx1
 generalize fOf m = f at *
 generalize remW id m = m2 at *
 obtain ⟨EH2, hEH2⟩ : ∃ E, EH.take (cntE EH (P.1, id)) ++ EH.drop (cntE EH (P.1, id) + 1) = E := ⟨_, rfl⟩
 obtain ⟨ET2, hET2⟩ : ∃ E, ET.take (cntE ET (P.2, id)) ++ ET.drop (cntE ET (P.2, id) + 1) = E := ⟨_, rfl⟩
 rw [hEH2, hET2] at HFIN
 have HEH2 := Lib.hid hEH2
 have HET2 := Lib.hid hET2
 clear hEH2 hET2
 go_enter Try.func12, Try.ntmps12
 go_upto_region 1 with fail
 refine wl <| gz2 (.pointer (some ⟨g, 0, none⟩)) (.bool false) <| wn ?_
 simp only [pu]
 go_upto_region 3 with fail
 refine wl <| gz3 (.pointer (some ⟨g, 0, none⟩)) (.pointer (some ⟨g, 0, none⟩)) (.pointer (some ⟨g, 0, none⟩)) <| gzl rfl ⟨g, 0, none⟩ (.map (some B)) (hX.load (i := 0) rfl (by kernel_rfl)) <| gz1 (.int .i64 id) <|
  gzv (.tuple #[.agg #[.int .i64 P.1, .int .i64 P.2], .bool true]) (ex_look 51 (.tmp 13) (.tmp 14) true rfl (.map (some B)) (.int .i64 id) _ (by kernel_rfl) (by kernel_rfl) HLK.out) <|
  gz3 (.tuple #[.agg #[.int .i64 P.1, .int .i64 P.2], .bool true]) (.agg #[.int .i64 P.1, .int .i64 P.2]) (.bool true) ?_
 simp only [pu]
 refine run_to rfl (some 5) rfl (.pointer (some ⟨w.heap.size, 0, none⟩)) (w.alloc (.cells #[.int .i64 0, .int .i64 0] 58)) (by kernel_rfl) ?_
 simp only [pu]
 refine gzs rfl (hst2) <| gz1 (.bool true) <| wn ?_
 simp only [pu]
 obtain ⟨g5, hg5⟩ : ∃ g5, w.heap.size = g5 := ⟨_, rfl⟩
 rw [hg5] at hX2 HGW ⊢
 clear hX HLK hst2 hg5
 go_upto_region 4 with fail
 refine wl <| gz2 (.bool true) (.bool false) <| wn ?_
 simp only [pu]
 obtain ⟨V3, hdl, hM3, -, hg3⟩ := HR2.out.mp.del id 0
 have hR3S3 := HR2.out.map hM3 hg3
 have HR3 := Lib.hid hR3S3.1
 have HS3 := Lib.hid hR3S3.2
 have hXq := HR2.out.bx
 have hP3 := hg3.5 g5 hX2.lt (fun e => by cases e; have := HGW.out _ (.inr (.inl rfl)); omega)
 have hX3 : Bx V3 g5 #[.int .i64 P.1, .int .i64 P.2] 58 := hP3.trans hX2
 have CA1 := q_lrem (o := 1) (HR3.out.below (Below.refl _ V3).drew).bx rfl (HR3.out.below (Below.refl _ V3).drew).rh HLH.out.1 HLH.out.2.1 (P.1, id) HLH.out.2.2
 rw [HEH2.out] at CA1
 clear hM3 hg3 hR3S3 hP3 hX2
 go_upto_region 6 with fail
 refine wl <| gz3 (.pointer (some ⟨g, 0, none⟩)) (.pointer (some ⟨g, 0, none⟩)) (.pointer (some ⟨g, 0, none⟩)) <| gzl rfl ⟨g, 0, none⟩ (.map (some B)) (hXq.load (i := 0) rfl (by kernel_rfl)) <| gz1 (.int .i64 id) ?_
 simp only [pu]
 refine gw_dl rfl (by kernel_rfl) rfl (.tmp 23) (.tmp 24) 51 3 rfl (.map (some B)) (.int .i64 id) (.tuple #[]) V3 (by kernel_rfl) (by kernel_rfl) hdl ?_
 apply wpList_nil
 clear hdl hXq
 go_upto_region 7 with fail
 refine wp_region_class_tail (C := fun U => U = V3.drew) 7 (by kernel_rfl) (by kernel_rfl) (rfl) ?_
 simp only [List.take_succ_cons, List.take_zero, List.drop_succ_cons, List.drop_zero]
 refine gy (.pointer (some ⟨g, 0, none⟩)) <| gy (.pointer (some ⟨g, 0, none⟩)) <| gy (.pointer (some ⟨g, 1, none⟩)) <| gy (.pointer (some ⟨g5, 0, none⟩)) <| gyl rfl ⟨g5, 0, none⟩ (.int .i64 P.1) (fun U hU => by rw [hU]; exact Bx.load (w := V3.drew) hX3 (i := 0) rfl (by kernel_rfl)) <|
   gy (.int .i64 id) <| gy (.agg (enA (P.1, id))) ?_
 simp only [pu]
 apply wpQuiet_nil
 intro U hU
 subst hU
 refine gzc (.tuple #[]) (fun w' => LaO V3.drew g 1 (qc B bl vH sp vT) vH EH2 w') CA1 (fun V4 hq => ?_)
 simp only [pu]
 have hX4 : Bx V4 g5 #[.int .i64 P.1, .int .i64 P.2] 58 := (hq.but g5 (show g5 < V3.drew.heap.size from hX3.lt) (fun e => by have := HGW.out _ (.inl rfl); omega) (fun e => by have := HGW.out _ (.inr (.inr (.inl e))); omega)).trans hX3
 obtain ⟨vH2, hR4, hS4⟩ := (HR3.out.below (Below.refl _ V3).drew).lH hq
 have CA2 := q_lrem (o := 3) (hR4.below (Below.refl _ V4).drew).bx rfl (hR4.below (Below.refl _ V4).drew).rt HLT.out.1 HLT.out.2.1 (P.2, id) HLT.out.2.2
 rw [HET2.out] at CA2
 have HR4 := Lib.hid hR4
 have HS4 := Lib.hid ((HS3.out.tr (StQ.below (Below.refl _ V3).drew)).tr hS4)
 clear hq hR4 hS4 CA1 HS3 hX3
 apply wpList_nil
 go_upto_region 8 with fail
 refine wp_region_class_tail (C := fun U => U = V4.drew) 7 (by kernel_rfl) (by kernel_rfl) (rfl) ?_
 simp only [List.take_succ_cons, List.take_zero, List.drop_succ_cons, List.drop_zero]
 refine gy (.pointer (some ⟨g, 0, none⟩)) <| gy (.pointer (some ⟨g, 0, none⟩)) <| gy (.pointer (some ⟨g, 3, none⟩)) <| gy (.pointer (some ⟨g5, 1, none⟩)) <| gyl rfl ⟨g5, 1, none⟩ (.int .i64 P.2) (fun U hU => by rw [hU]; exact Bx.load (w := V4.drew) hX4 (i := 1) rfl (by kernel_rfl)) <|
   gy (.int .i64 id) <| gy (.agg (enA (P.2, id))) ?_
 simp only [pu]
 apply wpQuiet_nil
 intro U hU
 subst hU
 refine gzc (.tuple #[]) (fun w' => LaO V4.drew g 3 (qc B bl vH2 sp vT) vT ET2 w') CA2 (fun V5 hq => ?_)
 simp only [pu]
 obtain ⟨vT2, hR5, hS5⟩ := (HR4.out.below (Below.refl _ V4).drew).lT hq
 have HE := Lib.hid (HFIN.out V5 vH2 vT2 ((HS4.out.tr (StQ.below (Below.refl _ V4).drew)).tr hS5) hR5)
 clear hq hR5 hS5 CA2 HS4 HR4 HR3 HFIN hX4
 apply wpList_nil
 go_upto_region 9 with fail
 refine wl <| gz1 (.bool true) <| wn ?_
 simp only [pu]
 go_wp2_with fail
 go_ret
 exact ⟨rfl, HE.out⟩
theorem q_add {w : World} {g : Nat} {S : Nat → Prop} {bl sp : Int} {m : List Wt} (h0 : RepQ w g S bl sp m) (hl : m.length ≤ 1000) (id h t : Int) (hhi : I64 h) (hti : I64 t) {B0 : Nat} (hB : ∀ j, S j → B0 ≤ j) (hw : B0 ≤ w.heap.size) : Calls Try.prog 18 #[.pointer (some ⟨g, 0, none⟩), .int .i64 id, .int .i64 h, .int .i64 t] w fun e w' => e = .returned (.bool (!hasW m id)) ∧ UpdQ g B0 S bl sp (addW m (id, h, t)) w w' := by
 cases hh : hasW m id with
 | true => exact (add_old h0 id h t hh).mono fun e w' z => ⟨z.1, by rw [add_no (z := (id, h, t)) hh]; exact h0.upd z.2 hw⟩
 | false => exact add_new h0 hl id h t hh hhi hti hB hw
theorem q_rem {w : World} {g : Nat} {S : Nat → Prop} {bl sp : Int} {m : List Wt} (h0 : RepQ w g S bl sp m) (hl : m.length ≤ 1000) (id : Int) {B0 : Nat} (hB : ∀ j, S j → B0 ≤ j) (hw : B0 ≤ w.heap.size) : Calls Try.prog 12 #[.pointer (some ⟨g, 0, none⟩), .int .i64 id] w fun e w' => e = .returned (.bool (hasW m id)) ∧ UpdQ g B0 S bl sp (remW id m) w w' := by
 cases hh : hasW m id with
 | false => exact (rem_old h0 id hh).mono fun e w' z => ⟨z.1, by rw [rem_no hh]; exact h0.upd z.2 hw⟩
 | true => exact rem_new h0 hl id hh hB hw
set_option maxRecDepth 100000 in
set_option maxHeartbeats 8000000 in
theorem add_nil (i h t : Int) (w : World) : Calls Try.prog 18 #[.pointer none, .int .i64 i, .int .i64 h, .int .i64 t] w fun e w' => e = .returned (.bool false) ∧ w = w' := by
 go_enter Try.func18, Try.ntmps18
 go_upto_region 1 with fail
 refine wl <| gz2 (.pointer none) (.bool true) <| wn ?_
 simp only [pu]
 go_upto_region 2 with fail
 refine wl <| gz1 (.bool false) <| wn ?_
 simp only [pu]
 go_wp2_with fail
 go_ret
 exact ⟨rfl, rfl⟩
set_option maxRecDepth 100000 in
set_option maxHeartbeats 8000000 in
theorem rem_nil (i : Int) (w : World) : Calls Try.prog 12 #[.pointer none, .int .i64 i] w fun e w' => e = .returned (.bool false) ∧ w = w' := by
 go_enter Try.func12, Try.ntmps12
 go_upto_region 1 with fail
 refine wl <| gz2 (.pointer none) (.bool true) <| wn ?_
 simp only [pu]
 go_upto_region 2 with fail
 refine wl <| gz1 (.bool false) <| wn ?_
 simp only [pu]
 go_wp2_with fail
 go_ret
 exact ⟨rfl, rfl⟩
set_option maxRecDepth 100000 in
set_option maxHeartbeats 8000000 in
theorem exp_nil (h t : Int) (w : World) : Calls Try.prog 15 #[.pointer none, .int .i64 h, .int .i64 t] w (IsO w []) := by
 go_enter Try.func15, Try.ntmps15
 go_upto_region 1 with fail
 refine wl <| gz2 (.pointer none) (.bool true) <| wn ?_
 simp only [pu]
 go_upto_region 2 with fail
 refine wl <| gz1 (.slice none 0 0) <| wn ?_
 simp only [pu]
 go_wp2_with fail
 go_ret
 exact ⟨_, rfl, own_no _ _ _ _, Below.refl _ _⟩
/-- What the region of Expired keeps. -/
structure KE (w : World) (LH LT : List Int) (b4 b9 b10 b11 : Bool) (x14 x19 x20 : Value) (V : World) : Prop where
 bel : Below w.heap.size w V
 o10 : b10 = true → b4 = true ∧ b9 = true
 o11 : b11 = true → b10 = true
 r14 : b4 = true → b10 = false → RowI V w.heap.size x14 LH
 r19 : b9 = true → b10 = false → RowI V w.heap.size x19 LT
 r20 : b10 = true → RowI V w.heap.size x20 (LH ++ LT)
section
variable {w : World} {LH LT : List Int} {b4 b9 b10 b11 : Bool} {x14 x19 x20 : Value} {V : World}
theorem KE.start (w : World) (LH LT : List Int) (x14 x19 x20 : Value) : KE w LH LT false false false false x14 x19 x20 w.drew := ⟨(Below.refl _ w).drew, fun h => by (cases h), fun h => by (cases h), fun h => by (cases h), fun h => by (cases h), fun h => by (cases h)⟩
theorem KE.n4 (h : KE w LH LT false b9 b10 b11 x14 x19 x20 V) : b10 = false := by cases b10; rfl; exact absurd (h.o10 rfl).1 (by decide)
theorem KE.n9 (h : KE w LH LT b4 false b10 b11 x14 x19 x20 V) : b10 = false := by cases b10; rfl; exact absurd (h.o10 rfl).2 (by decide)
theorem KE.n11 (h : KE w LH LT b4 b9 false b11 x14 x19 x20 V) : b11 = false := by cases b11; rfl; exact absurd (h.o11 rfl) (by decide)
theorem KE.s4 (h : KE w LH LT false b9 false b11 x14 x19 x20 V) {V2 : World} {x : Value} (hx : RowI V2 V.heap.size x LH) (hb : Below V.heap.size V V2) : KE w LH LT true b9 false b11 x x19 x20 V2 :=
 ⟨h.bel.trans (hb.mono h.bel.size), fun h => by (cases h), h.o11, fun _ _ => own_base hx h.bel.size, fun h9 h10 => (h.r19 h9 h10).below hb, fun h => by (cases h)⟩
theorem KE.s9 (h : KE w LH LT b4 false false b11 x14 x19 x20 V) {V2 : World} {x : Value} (hx : RowI V2 V.heap.size x LT) (hb : Below V.heap.size V V2) : KE w LH LT b4 true false b11 x14 x x20 V2 :=
 ⟨h.bel.trans (hb.mono h.bel.size), fun h => by (cases h), h.o11, fun h4 h10 => (h.r14 h4 h10).below hb, fun _ _ => own_base hx h.bel.size, fun h => by (cases h)⟩
theorem KE.s10 (h : KE w LH LT true true false false x14 x19 x20 V) {V2 : World} {x : Value} (hx : RowI V2 w.heap.size x (LH ++ LT)) (hb : Below w.heap.size V V2) : KE w LH LT true true true false x14 x19 x V2 :=
 ⟨h.bel.trans hb, fun _ => ⟨rfl, rfl⟩, fun h => by (cases h), fun _ h => by (cases h), fun _ h => by (cases h), fun _ => hx⟩
theorem KE.s11 (h : KE w LH LT b4 b9 true b11 x14 x19 x20 V) : KE w LH LT b4 b9 true true x14 x19 x20 V := { h with o11 := fun _ => rfl }
end
theorem below_grown {w V V2 : World} {r : Option Nat} (h : Below w.heap.size w V) (hg : V.grownBy V2 r) (hr : ∀ j, r = some j → w.heap.size ≤ j) : Below w.heap.size w V2 :=
 h.trans ⟨hg.1, hg.2, hg.3, hg.4, fun k hk => hg.5 k (Nat.lt_of_lt_of_le hk h.size) fun e => by have := hr k e.symm; omega⟩
set_option maxRecDepth 100000 in
set_option maxHeartbeats 8000000 in
theorem q_exp {w : World} {g : Nat} {S : Nat → Prop} {bl sp : Int} {m : List Wt} (h0 : RepQ w g S bl sp m) (hl : m.length ≤ 1000) (hbl : I64 bl) (hsp : I64 sp) {h t : Int} (hhi : I64 h) (hti : I64 t) : Calls Try.prog 15 #[.pointer (some ⟨g, 0, none⟩), .int .i64 h, .int .i64 t] w (IsO w (expW m bl sp h t)) := by
 obtain ⟨B, vH, vT, EH, ET, h1, -⟩ := h0
 have hlH : EH.length ≤ 1000 := by rw [h1.lh.len]; exact hl
 have hlT : ET.length ≤ 1000 := by rw [h1.lt.len]; exact hl
 have HC1 : Hid (∀ V, Below w.heap.size w V → Calls Try.prog 23 #[.pointer (some ⟨g, 1, none⟩), .int .i64 h] V (IsO V (expL EH bl h))) := Lib.hid fun V hV => q_expd (o := 1) (h1.rq.below hV).bx rfl rfl (h1.rq.below hV).rh (by omega) (h1.lh.enw_h h1.iw) hbl hhi
 have HC2 : Hid (∀ V, Below w.heap.size w V → Calls Try.prog 23 #[.pointer (some ⟨g, 3, none⟩), .int .i64 t] V (IsO V (expL ET sp t))) := Lib.hid fun V hV => q_expd (o := 3) (h1.rq.below hV).bx rfl rfl (h1.rq.below hV).rt (by omega) (h1.lt.enw_t h1.iw) hsp hti
 have hlh := Nat.le_trans (expL_len EH bl h) hlH
 have hlt := Nat.le_trans (expL_len ET sp t) hlT
 have hsc := sort_compact (expL EH bl h ++ expL ET sp t)
 have heq := exp_both h1.lh h1.lt h1.srt hsc.1 hsc.2
 generalize expL EH bl h = LH at *
 generalize expL ET sp t = LT at *
 have HLL : Hid (LH.length ≤ 1000 ∧ LT.length ≤ 1000) := Lib.hid ⟨hlh, hlt⟩
 have HEQ := Lib.hid heq
 generalize expW m bl sp h t = R at *
 obtain ⟨PO, hPO⟩ : ∃ PO, IsO w R = PO := ⟨_, rfl⟩
 have HEND : Hid (∀ V v, Below w.heap.size w V → RowI V w.heap.size v R → PO (.returned v) V) := Lib.hid fun V v hV hr => by rw [← hPO]; exact ⟨v, rfl, hr, hV⟩
 rw [hPO]
 clear h1 hl hbl hsp hhi hti hlH hlT hlh hlt hsc heq hPO
 go_enter Try.func15, Try.ntmps15
 go_upto_region 1 with fail
 refine wl <| gz2 (.pointer (some ⟨g, 0, none⟩)) (.bool false) <| wn ?_
 simp only [pu]
 go_upto_region 3 with fail
 have h0 := KE.start w LH LT undef undef undef
 refine wp_region_inv (fun listed act9 V => ∃ b0 b1 b2 b3 b4 b5 b6 b7 b8 b9 b10 b11 : Bool, ∃ x14 x19 x20 : Value, listed = #[b0, b1, b2, b3, b4, b5, b6, b7, b8, b9, b10, b11] ∧ act9 = { tmps := #[.pointer (some ⟨g, 0, none⟩), .int .i64 h, .int .i64 t, undef, undef, undef, .slice none 0 0, (cond b11 (x20) undef), .pointer (some ⟨g, 0, none⟩), .bool false, (cond b0 (.pointer (some ⟨g, 0, none⟩)) undef), (cond b1 (.pointer (some ⟨g, 0, none⟩)) undef), (cond b2 (.pointer (some ⟨g, 1, none⟩)) undef), (cond b3 (.int .i64 h) undef), x14, (cond b5 (.pointer (some ⟨g, 0, none⟩)) undef), (cond b6 (.pointer (some ⟨g, 0, none⟩)) undef), (cond b7 (.pointer (some ⟨g, 3, none⟩)) undef), (cond b8 (.int .i64 t) undef), x19, x20, undef, undef, undef, undef], defers := [] } ∧ KE w LH LT b4 b9 b10 b11 x14 x19 x20 V) (by kernel_rfl) (by kernel_rfl) ?_ ?_ ?_
 ·exact ⟨false, false, false, false, false, false, false, false, false, false, false, false, undef, undef, undef, rfl, rfl, h0⟩
 ·intro i9 listed act9 V hi9 hr hJ
  obtain ⟨b0, b1, b2, b3, b4, b5, b6, b7, b8, b9, b10, b11, x14, x19, x20, rfl, rfl, hF⟩ := hJ
  have hi2 : i9 < 12 := hi9
  have hi3 : i9 = 0 ∨ i9 = 1 ∨ i9 = 2 ∨ i9 = 3 ∨ i9 = 4 ∨ i9 = 5 ∨ i9 = 6 ∨ i9 = 7 ∨ i9 = 8 ∨ i9 = 9 ∨ i9 = 10 ∨ i9 = 11 := by omega
  rcases hi3 with rfl | rfl | rfl | rfl | rfl | rfl | rfl | rfl | rfl | rfl | rfl | rfl
  ·obtain rfl : b0 = false := ready_self hr
   refine st_val rfl (by kernel_rfl) (some 10) rfl (.pointer (some ⟨g, 0, none⟩)) V (by kernel_rfl) ?_
   exact ⟨true, b1, b2, b3, b4, b5, b6, b7, b8, b9, b10, b11, x14, x19, x20, rfl, rfl, hF⟩
  ·obtain rfl : b1 = false := ready_self hr
   obtain rfl : b0 = true := ready_dep hr 0 (by kernel_rfl)
   refine st_val rfl (by kernel_rfl) (some 11) rfl (.pointer (some ⟨g, 0, none⟩)) V (by kernel_rfl) ?_
   exact ⟨true, true, b2, b3, b4, b5, b6, b7, b8, b9, b10, b11, x14, x19, x20, rfl, rfl, hF⟩
  ·obtain rfl : b2 = false := ready_self hr
   obtain rfl : b1 = true := ready_dep hr 1 (by kernel_rfl)
   refine st_val rfl (by kernel_rfl) (some 12) rfl (.pointer (some ⟨g, 1, none⟩)) V (by kernel_rfl) ?_
   exact ⟨b0, true, true, b3, b4, b5, b6, b7, b8, b9, b10, b11, x14, x19, x20, rfl, rfl, hF⟩
  ·obtain rfl : b3 = false := ready_self hr
   refine st_val rfl (by kernel_rfl) (some 13) rfl (.int .i64 h) V (by kernel_rfl) ?_
   exact ⟨b0, b1, b2, true, b4, b5, b6, b7, b8, b9, b10, b11, x14, x19, x20, rfl, rfl, hF⟩
  ·obtain rfl : b4 = false := ready_self hr
   obtain rfl : b2 = true := ready_dep hr 2 (by kernel_rfl)
   obtain rfl : b3 = true := ready_dep hr 3 (by kernel_rfl)
   obtain rfl : b10 = false := hF.n4
   refine st_call rfl (by kernel_rfl) (some 14) rfl 23 #[.pointer (some ⟨g, 1, none⟩), .int .i64 h] (by kernel_rfl) ((HC1.out V hF.bel).mono fun e9 V9 hq9 => ?_)
   obtain ⟨v9, rfl, h2, h3⟩ := hq9
   refine ⟨v9, rfl, ?_⟩
   exact ⟨b0, b1, true, true, true, b5, b6, b7, b8, b9, false, b11, _, _, _, rfl, rfl, hF.s4 h2 h3⟩
  ·obtain rfl : b5 = false := ready_self hr
   refine st_val rfl (by kernel_rfl) (some 15) rfl (.pointer (some ⟨g, 0, none⟩)) V (by kernel_rfl) ?_
   exact ⟨b0, b1, b2, b3, b4, true, b6, b7, b8, b9, b10, b11, x14, x19, x20, rfl, rfl, hF⟩
  ·obtain rfl : b6 = false := ready_self hr
   obtain rfl : b5 = true := ready_dep hr 5 (by kernel_rfl)
   refine st_val rfl (by kernel_rfl) (some 16) rfl (.pointer (some ⟨g, 0, none⟩)) V (by kernel_rfl) ?_
   exact ⟨b0, b1, b2, b3, b4, true, true, b7, b8, b9, b10, b11, x14, x19, x20, rfl, rfl, hF⟩
  ·obtain rfl : b7 = false := ready_self hr
   obtain rfl : b6 = true := ready_dep hr 6 (by kernel_rfl)
   refine st_val rfl (by kernel_rfl) (some 17) rfl (.pointer (some ⟨g, 3, none⟩)) V (by kernel_rfl) ?_
   exact ⟨b0, b1, b2, b3, b4, b5, true, true, b8, b9, b10, b11, x14, x19, x20, rfl, rfl, hF⟩
  ·obtain rfl : b8 = false := ready_self hr
   refine st_val rfl (by kernel_rfl) (some 18) rfl (.int .i64 t) V (by kernel_rfl) ?_
   exact ⟨b0, b1, b2, b3, b4, b5, b6, b7, true, b9, b10, b11, x14, x19, x20, rfl, rfl, hF⟩
  ·obtain rfl : b9 = false := ready_self hr
   obtain rfl : b7 = true := ready_dep hr 7 (by kernel_rfl)
   obtain rfl : b8 = true := ready_dep hr 8 (by kernel_rfl)
   obtain rfl : b10 = false := hF.n9
   refine st_call rfl (by kernel_rfl) (some 19) rfl 23 #[.pointer (some ⟨g, 3, none⟩), .int .i64 t] (by kernel_rfl) ((HC2.out V hF.bel).mono fun e9 V9 hq9 => ?_)
   obtain ⟨v9, rfl, h2, h3⟩ := hq9
   refine ⟨v9, rfl, ?_⟩
   exact ⟨b0, b1, b2, b3, b4, b5, b6, true, true, true, false, b11, _, _, _, rfl, rfl, hF.s9 h2 h3⟩
  ·obtain rfl : b10 = false := ready_self hr
   obtain rfl : b4 = true := ready_dep hr 4 (by kernel_rfl)
   obtain rfl : b9 = true := ready_dep hr 9 (by kernel_rfl)
   obtain rfl : b11 = false := hF.n11
   obtain ⟨a9, c9, rfl, hcs9, -⟩ := (hF.r19 rfl rfl).cs
   obtain ⟨v9, V9, hap, h2, h3, -, -⟩ := app_int (hF.r14 rfl rfl) hF.bel.size a9 LT.length c9 LT hcs9 rfl (by have := HLL.out.1; omega) (by have := HLL.out.2; omega)
   refine st_append rfl (by kernel_rfl) (some 20) rfl 22 rfl (.tmp 14) (.tmp 19) 22 rfl x14 (.slice a9 LT.length c9) v9 V9 (by kernel_rfl) (by kernel_rfl) hap ?_
   exact ⟨b0, b1, b2, b3, true, b5, b6, b7, b8, true, true, false, _, _, _, rfl, rfl, hF.s10 h2 h3⟩
  ·obtain rfl : b11 = false := ready_self hr
   obtain rfl : b10 = true := ready_dep hr 10 (by kernel_rfl)
   refine st_val rfl (by kernel_rfl) (some 7) rfl (x20) V (by kernel_rfl) ?_
   exact ⟨b0, b1, b2, b3, b4, b5, b6, b7, b8, b9, true, true, _, _, _, rfl, rfl, hF.s11⟩
 ·intro act9 V hJ
  obtain ⟨b0, b1, b2, b3, b4, b5, b6, b7, b8, b9, b10, b11, x14, x19, x20, he, rfl, hF⟩ := hJ
  have he : (#[true, true, true, true, true, true, true, true, true, true, true, true] : Array Bool) = #[b0, b1, b2, b3, b4, b5, b6, b7, b8, b9, b10, b11] := he
  simp only [Array.mk.injEq, List.cons.injEq, and_true] at he
  obtain ⟨rfl, rfl, rfl, rfl, rfl, rfl, rfl, rfl, rfl, rfl, rfl, rfl⟩ := he
  simp only [cond_true]
  have hr := hF.r20 rfl
  have HB := Lib.hid hF.bel
  clear hF h0 HC1 HC2
  obtain ⟨L0, hL0⟩ : ∃ L0, LH ++ LT = L0 := ⟨_, rfl⟩
  have hlen : L0.length ≤ 1000000 := by rw [← hL0, List.length_append]; have := HLL.out; omega
  rw [hL0] at hr HEQ
  have CS := q_sort hr hlen
  have HRL := Lib.hid hr
  have hlen2 : (L0.mergeSort fun x y => decide (x ≤ y)).length ≤ 1000000 := by rw [List.length_mergeSort]; exact hlen
  generalize (L0.mergeSort fun x y => decide (x ≤ y)) = L1 at *
  have HL1 := Lib.hid hlen2
  clear hr hL0 hlen hlen2
  go_upto_region 4 with fail
  refine wl <| gz1 (x20) <| gzc (.tuple #[]) (fun w' => RowI w' w.heap.size x20 L1 ∧ V.grownBy w' x20.ownBlock) CS (fun V2 hq => ?_)
  obtain ⟨hr2, hg2⟩ := hq
  have HB2 := Lib.hid (below_grown HB.out hg2 fun j hj => (HRL.out.lt j hj).1)
  have CC := q_compact hr2 HL1.out
  rw [HEQ.out] at CC
  have HR2 := Lib.hid hr2
  clear hr2 hg2 CS HB HRL
  simp only [pu]
  apply wpList_nil
  go_upto_region 5 with fail
  refine wl <| gz1 (x20) <| gze (fun u w' => RowI w' w.heap.size u R ∧ V2.grownBy w' x20.ownBlock) CC (fun v9 V3 hq => ?_)
  obtain ⟨hr3, hg3⟩ := hq
  have HE := Lib.hid (HEND.out V3 v9 (below_grown HB2.out hg3 fun j hj => (HR2.out.lt j hj).1) hr3)
  clear hr3 hg3 CC HR2 HB2 HEND
  simp only [pu]
  refine gz1 (v9) <| wn ?_
  simp only [pu]
  go_wp2_with fail
  exact HE.out
end Go.Proofs.Ytdjphghoollejaa
