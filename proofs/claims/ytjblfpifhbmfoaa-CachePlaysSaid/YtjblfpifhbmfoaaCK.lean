/-
  Keys: two by ==, rows of keys as rows of cells, slices of keys written out, cut, appended to.
-/
import Derived.Test.YtjblfpifhbmfoaaCB
namespace Go.Proofs.Ytjblfpifhbmfoaa
open Go.RowKit
set_option linter.unusedSimpArgs false
set_option linter.unusedVariables false

abbrev w8s (L : List Int) : Array Value := (L.map (Value.int .u8)).toArray
theorem one_w8s (L : List Int) : (w8s L).all (·.oneCell') = true := all_oneCell_toArray fun v hv => by
  obtain ⟨x, -, rfl⟩ := List.mem_map.1 hv
  rfl
theorem all_same : ∀ (A B : List Int), A.length = B.length → ((List.range A.length).all fun i => A.getD i 0 == B.getD i 0) = (A == B)
  | [], [], _ => rfl
  | x :: xs, y :: ys, h => by
    have ih := all_same xs ys (by simpa using h)
    rw [List.length_cons, List.range_succ_eq_map, List.all_cons, List.all_map]
    simp only [List.getD_cons_zero, Function.comp_def, List.getD_cons_succ, ih]
    simp [List.cons_beq_cons]
  | [], _ :: _, h => by simp at h
  | _ :: _, [], h => by simp at h

theorem keys_cmp {P : Program} (w : World) (d t e n : Nat) (ht : P.underlying t = some (.array n e)) (he : P.underlying e = some (.int .u8)) (hsz : ∀ w, (sizeOf e).run P w = .ok 1 w) (A B : List Int) (hx : A.length = n) (hy : B.length = n) :
    (Op.equalIn (d + 2) t (.agg (w8s A)) (.agg (w8s B))).run P w = .ok (A == B) w := by
  rw [← all_same A B (hx.trans hy.symm), hx, List.range_eq_range', Op.equalIn]
  simp only [Sem.run_bind, run_underlying ht, Result.andThen_ok, hsz, Std.Legacy.Range.forIn_eq_forIn_range', Std.Legacy.Range.size, Nat.sub_zero, Nat.add_sub_cancel, Nat.div_one]
  have hl : ∀ i ∈ List.range' 0 n 1, i < n := fun i hi => by simpa using (List.mem_range'_1.1 hi).2
  generalize List.range' 0 n 1 = l at hl ⊢
  induction l with
  | nil => simp
  | cons i l ih =>
    have hi : i < n := hl i (by simp)
    have px : (part e (w8s A) (i * 1)).run P w = .ok (.int .u8 (A.getD i 0)) w := by
      simp [part, isAgg, run_underlying he, List.getD, List.getElem?_eq_getElem (show i < A.length by omega)]
    have py : (part e (w8s B) (i * 1)).run P w = .ok (.int .u8 (B.getD i 0)) w := by
      simp [part, isAgg, run_underlying he, List.getD, List.getElem?_eq_getElem (show i < B.length by omega)]
    have pe : (Op.equalIn (d + 1) e (.int .u8 (A.getD i 0)) (.int .u8 (B.getD i 0))).run P w = .ok (A.getD i 0 == B.getD i 0) w := run_equalIn_int w d e .u8 .u8 _ _ he
    simp only [List.forIn_cons, Sem.run_bind, px, py, pe, Result.andThen_ok, List.all_cons]
    cases hb : (A.getD i 0 == B.getD i 0)
    · simp
    · simp only [Bool.not_true, Bool.false_eq_true, if_false, Sem.run_pure, Result.andThen_ok, Bool.true_and]
      exact ih fun j hj => hl j (by simp [hj])
theorem key_cmp (A B : List Int) (hA : A.length = 32) (hB : B.length = 32) (w : World) : (Op.equalIn 10000 34 (.agg (w8s A)) (.agg (w8s B))).run Try.prog w = .ok (A == B) w :=
  keys_cmp w 9998 34 5 32 (by kernel_rfl) Try.underlying5 (fun w => by kernel_rfl) A B hA hB
theorem foldl_set : ∀ (l : List Value) (s o : Nat) (cs : Array Value), ((l.zipIdx s).foldl (fun cs x => cs.setIfInBounds (o + x.2) x.1) cs).size = cs.size ∧
    ∀ i, ((l.zipIdx s).foldl (fun cs x => cs.setIfInBounds (o + x.2) x.1) cs)[i]? = if o + s ≤ i ∧ i < o + s + l.length ∧ i < cs.size then l[i - (o + s)]? else cs[i]?
  | [], s, o, cs => by
    refine ⟨rfl, fun i => ?_⟩
    simp only [List.zipIdx_nil, List.foldl_nil, List.length_nil]
    rw [if_neg (by omega)]
  | v :: l, s, o, cs => by
    obtain ⟨h1, h2⟩ := foldl_set l (s + 1) o (cs.setIfInBounds (o + s) v)
    simp only [List.zipIdx_cons, List.foldl_cons]
    refine ⟨h1.trans (by simp), fun i => ?_⟩
    rw [h2 i]
    simp only [Array.size_setIfInBounds, List.length_cons]
    by_cases hi : i = o + s
    · subst hi
      rw [if_neg (by omega)]
      by_cases hb : o + s < cs.size
      · rw [if_pos (by omega), Array.getElem?_setIfInBounds_self_of_lt hb]
        simp
      · rw [if_neg (by omega), Array.getElem?_eq_none (by simp; omega), Array.getElem?_eq_none (by omega)]
    · rw [Array.getElem?_setIfInBounds_ne (by omega)]
      by_cases hr : o + (s + 1) ≤ i ∧ i < o + (s + 1) + l.length ∧ i < cs.size
      · rw [if_pos hr, if_pos (by omega)]
        have : i - (o + s) = (i - (o + (s + 1))) + 1 := by omega
        rw [this, List.getElem?_cons_succ]
      · rw [if_neg hr, if_neg (by omega)]
theorem agg_fold (c : Array Value) (o : Nat) (cs : Array Value) : (c.zipIdx.foldl (fun cs (x, j) => cs.setIfInBounds (o + j) x) cs) = ((c.toList.zipIdx 0).foldl (fun cs x => cs.setIfInBounds (o + x.2) x.1) cs) := by
  rw [← Array.foldl_toList, Array.toList_zipIdx]
theorem size_w8s (K : List Int) : (w8s K).size = K.length := by simp
theorem get_w8s (K : List Int) (i : Nat) : (w8s K).toList[i]? = (w8s K)[i]? := by simp
/-- One key. -/
theorem fill_one (Z : Array Value) (K : List Int) (hZ : Z.size = 32) (hK : K.length = 32) : Instr.fill (fun i => some (i * 32, 32)) Z [(0, .agg (w8s K))] = some (w8s K) := by
  have hs : (Value.agg (w8s K)).cells = w8s K := rfl
  unfold Instr.fill
  simp only [hs, size_w8s, hK, hZ]
  rw [if_neg (by simp)]
  unfold Instr.fill
  congr 1
  rw [agg_fold]
  obtain ⟨h1, h2⟩ := foldl_set (w8s K).toList 0 (0 * 32) Z
  apply Array.ext_getElem?
  intro i
  rw [h2 i, get_w8s]
  have hl : (w8s K).toList.length = 32 := by rw [Array.length_toList, size_w8s, hK]
  rw [hl, hZ]
  by_cases hi : i < 32
  · rw [if_pos (by omega)]
    simp
  · rw [if_neg (by omega), Array.getElem?_eq_none (by omega), Array.getElem?_eq_none (by rw [size_w8s]; omega)]
/-- Two keys. -/
theorem fill_two (Z : Array Value) (A B : List Int) (hZ : Z.size = 64) (hA : A.length = 32) (hB : B.length = 32) : Instr.fill (fun i => some (i * 32, 32)) Z [(0, .agg (w8s A)), (1, .agg (w8s B))] = some (w8s (A ++ B)) := by
  have hs : ∀ K, (Value.agg (w8s K)).cells = w8s K := fun _ => rfl
  unfold Instr.fill
  simp only [hs, size_w8s, hA, hZ]
  rw [if_neg (by simp)]
  unfold Instr.fill
  rw [agg_fold]
  obtain ⟨h1, h2⟩ := foldl_set (w8s A).toList 0 (0 * 32) Z
  generalize (List.foldl (fun cs (x : Value × Nat) => cs.setIfInBounds (0 * 32 + x.2) x.1) Z ((w8s A).toList.zipIdx 0)) = Y at *
  simp only [hs, size_w8s, hB, h1, hZ]
  rw [if_neg (by simp)]
  unfold Instr.fill
  congr 1
  rw [agg_fold]
  obtain ⟨h3, h4⟩ := foldl_set (w8s B).toList 0 (1 * 32) Y
  apply Array.ext_getElem?
  intro i
  rw [h4 i, h2 i, get_w8s, get_w8s]
  have hl : (w8s A).toList.length = 32 := by rw [Array.length_toList, size_w8s, hA]
  have hl2 : (w8s B).toList.length = 32 := by rw [Array.length_toList, size_w8s, hB]
  rw [hl, hl2, h1, hZ]
  by_cases hi : i < 32
  · rw [if_neg (by omega), if_pos (by omega)]
    simp [List.getElem?_append, hA, hi]
  · by_cases hj : i < 64
    · rw [if_pos (by omega)]
      simp [List.getElem?_append, hA, hi]
    · rw [if_neg (by omega), if_neg (by omega), Array.getElem?_eq_none (by omega), Array.getElem?_eq_none (by rw [size_w8s, List.length_append]; omega)]
theorem infoK : (Try.prog.info? 34).map (fun i => (i.zero, i.size, i.bytes)) = some (some (.agg (w8s (List.replicate 32 0))), 32, 32) := by kernel_rfl
theorem build_one (K : List Int) (hK : K.length = 32) (w : World) : (Instr.buildSlice 30 1 #[(0, .agg (w8s K))]).run Try.prog w = .ok (.slice (some ⟨w.heap.size, 0, none⟩) 1 1) (w.alloc (.cells (w8s K) 34)) := by
  obtain ⟨i0, hi, hz0, hz1, hz2⟩ := info_parts infoK
  refine run_buildSlice w 30 34 1 _ (w8s K) i0 _ (by kernel_rfl) hi hz0 (by rw [hz1]; omega) (by rw [hz1]; omega) ?_
  rw [hz1]
  exact fill_one _ K (by simp) hK
theorem build_two (A B : List Int) (hA : A.length = 32) (hB : B.length = 32) (w : World) : (Instr.buildSlice 30 2 #[(0, .agg (w8s A)), (1, .agg (w8s B))]).run Try.prog w = .ok (.slice (some ⟨w.heap.size, 0, none⟩) 2 2) (w.alloc (.cells (w8s (A ++ B)) 34)) := by
  obtain ⟨i0, hi, hz0, hz1, hz2⟩ := info_parts infoK
  refine run_buildSlice w 30 34 2 _ (w8s (A ++ B)) i0 _ (by kernel_rfl) hi hz0 (by rw [hz1]; omega) (by rw [hz1]; omega) ?_
  rw [hz1]
  exact fill_two _ A B (by simp) hA hB
/-- The cells of keys in a row. -/
def kcells (Ks : List (List Int)) : List Value := Ks.flatMap fun k => k.map (Value.int .u8)
theorem kcells_snoc (Ks : List (List Int)) (k : List Int) : kcells (Ks ++ [k]) = kcells Ks ++ k.map (Value.int .u8) := by simp [kcells]
theorem kcells_len (Ks : List (List Int)) (h : ∀ k ∈ Ks, k.length = 32) : (kcells Ks).length = Ks.length * 32 := by
  induction Ks with
  | nil => rfl
  | cons k Ks ih =>
    have : kcells (k :: Ks) = k.map (Value.int .u8) ++ kcells Ks := rfl
    rw [this, List.length_append, ih (fun k hk => h k (by simp [hk])), List.length_map, h k (by simp), List.length_cons]
    omega
theorem kcells_at (Ks : List (List Int)) (h : ∀ k ∈ Ks, k.length = 32) : ∀ i j, i < Ks.length → j < 32 → (kcells Ks)[i * 32 + j]? = ((Ks.getD i []).map (Value.int .u8))[j]? := by
  induction Ks with
  | nil => intro i j hi; simp at hi
  | cons k Ks ih =>
    intro i j hi hj
    have e : kcells (k :: Ks) = k.map (Value.int .u8) ++ kcells Ks := rfl
    have hk : (k.map (Value.int .u8)).length = 32 := by rw [List.length_map]; exact h k (by simp)
    rw [e]
    cases i with
    | zero => rw [List.getElem?_append_left (by omega)]; simp
    | succ i =>
      rw [List.getElem?_append_right (by omega), hk, show (i + 1) * 32 + j - 32 = i * 32 + j by omega, ih (fun k hk => h k (by simp [hk])) i j (by simpa using hi) hj]
      simp
theorem key_guard25 : Try.prog.eqGuardType Try.prog.depth 34 = false := by kernel_rfl
/-- Two keys by == and by !=. -/
theorem eq_key {ρ : Operand → Value} {o : Oper} {x y : Operand} (ho : o.op = .binOp .eql 34 x y 34) (A B : List Int) (hA : A.length = 32) (hB : B.length = 32) (hx : ρ x = .agg (w8s A)) (hy : ρ y = .agg (w8s B)) (w : World) :
    (execOp ρ o).run Try.prog w = .ok (.value (.bool (A == B))) w := by
  have h1 := key_cmp A B hA hB w
  have h2 := key_guard25
  unfold execOp
  simp only [ho, hx, hy]
  simp [h1, h2, go_sem]
theorem ne_key {ρ : Operand → Value} {o : Oper} {x y : Operand} (ho : o.op = .binOp .neq 34 x y 34) (A B : List Int) (hA : A.length = 32) (hB : B.length = 32) (hx : ρ x = .agg (w8s A)) (hy : ρ y = .agg (w8s B)) (w : World) :
    (execOp ρ o).run Try.prog w = .ok (.value (.bool (!(A == B)))) w := by
  have h1 := key_cmp A B hA hB w
  have h2 := key_guard25
  unfold execOp
  simp only [ho, hx, hy]
  simp [h1, h2, go_sem]
def Kc (Ks : List (List Int)) : Prop := ∀ k ∈ Ks, k.length = 32
theorem Kc.nil : Kc [] := fun k hk => by cases hk
theorem Kc.app {A B : List (List Int)} (h : Kc A) (k : Kc B) : Kc (A ++ B) := fun x hx => (List.mem_append.1 hx).elim (h x) (k x)
theorem Kc.one {k : List Int} (h : k.length = 32) : Kc [k] := fun x hx => by
  rw [List.mem_singleton] at hx
  rw [hx]; exact h
theorem Kc.take {A : List (List Int)} (h : Kc A) (n : Nat) : Kc (A.take n) := fun x hx => h x (List.mem_of_mem_take hx)
theorem Kc.drop {A : List (List Int)} (h : Kc A) (n : Nat) : Kc (A.drop n) := fun x hx => h x (List.mem_of_mem_drop hx)
theorem Kc.at {A : List (List Int)} (h : Kc A) {i : Nat} (hi : i < A.length) : (A.getD i []).length = 32 := by
  rw [getD_lt A i [] hi]
  exact h _ (List.getElem_mem hi)
theorem kcells_app (A B : List (List Int)) : kcells (A ++ B) = kcells A ++ kcells B := by simp [kcells]
theorem kcells_take (A : List (List Int)) (h : Kc A) (k : Nat) : (kcells A).take (k * 32) = kcells (A.take k) := by
  rcases Nat.lt_or_ge A.length k with hk | hk
  · rw [List.take_of_length_le (by rw [kcells_len A h]; omega), List.take_of_length_le (by omega)]
  · have e : kcells A = kcells (A.take k) ++ kcells (A.drop k) := by rw [← kcells_app, List.take_append_drop]
    have hl : (kcells (A.take k)).length = k * 32 := by rw [kcells_len _ (h.take k), List.length_take]; congr 1; omega
    rw [e, List.take_append_of_le_length (by omega), List.take_of_length_le (by omega)]
theorem kcells_drop (A : List (List Int)) (h : Kc A) (k : Nat) : (kcells A).drop (k * 32) = kcells (A.drop k) := by
  rcases Nat.lt_or_ge A.length k with hk | hk
  · rw [List.drop_eq_nil_of_le (by rw [kcells_len A h]; omega), List.drop_eq_nil_of_le (by omega)]; rfl
  · have e : kcells A = kcells (A.take k) ++ kcells (A.drop k) := by rw [← kcells_app, List.take_append_drop]
    have hl : (kcells (A.take k)).length = k * 32 := by rw [kcells_len _ (h.take k), List.length_take]; congr 1; omega
    rw [e, List.drop_append, List.drop_eq_nil_of_le (by omega), hl]
    simp
theorem kcells_one (Ks : List (List Int)) : ∀ u ∈ kcells Ks, u.oneCell' = true := fun u hu => by
  obtain ⟨k, -, hku⟩ := List.mem_flatMap.1 hu
  obtain ⟨x, -, rfl⟩ := List.mem_map.1 hku
  rfl
theorem append_k {w : World} {B n m : Nat} {v : Value} {xs : List Value} (hO : w.ownsRow B 34 32 v n xs) (pa : Option Addr) (cp : Nat) (L : List (List Int)) (hP : Cs w pa (kcells L)) (hk : Kc L) (hl : L.length = m) (hB : B ≤ w.heap.size) (hn : n ≤ 100000) (hm : m ≤ 100000) :
    ∃ v' w', (Builtin.append_ #[30, 30] 30 #[v, .slice pa m cp]).run Try.prog w = .ok v' w' ∧ w'.ownsRow B 34 32 v' (n + m) (xs ++ kcells L) ∧ Below B w w' ∧ w.grownBy w' v.ownBlock :=
  append_cs (by kernel_rfl) infoK (by kernel_rfl) (by omega) (by omega) hO pa cp _ hP (by rw [kcells_len L hk, hl]) (kcells_one _) hB hn hm
theorem nil_k (w : World) : (Instr.buildSlice 30 0 #[]).run Try.prog w = .ok (.slice (some ⟨w.heap.size, 0, none⟩) 0 0) (w.alloc (.cells #[] 34)) := build_nil (by kernel_rfl) infoK w
theorem cut_k_to (a : Option Addr) (n c k : Nat) (w : World) (h : k ≤ c) : (Instr.slice 30 (.slice a n c) none (some (.int .i64 (k : Int))) none).run Try.prog w = .ok (.slice a k c) w := cut_to (s := 32) (by kernel_rfl) (fun w => by kernel_rfl) a n c k w h
theorem cut_k_from (a : Option Addr) (n c k : Nat) (w : World) (h : k ≤ n) : (Instr.slice 30 (.slice a n c) (some (.int .i64 (k : Int))) none none).run Try.prog w = .ok (.slice (fromS 32 a c k) (n - k) (c - k)) w := cut_from (s := 32) (by kernel_rfl) (fun w => by kernel_rfl) a n c k w h
/-- A key in a row. -/
theorem key_at {w : World} {a : Option Addr} {Ks : List (List Int)} (h : Cs w a (kcells Ks)) (hk : Kc Ks) {i : Nat} (hi : i < Ks.length) : ∃ b off, a = some ⟨b, off, none⟩ ∧ b < w.heap.size ∧ w.rangeAt b (off + i * 32) ((Ks.getD i []).map (Value.int .u8)) := by
  have h32 := hk.at hi
  have h0 := kcells_at Ks hk i 0 hi (by omega)
  cases hK : Ks.getD i [] with
  | nil => rw [hK] at h32; cases h32
  | cons x r =>
    rw [hK] at h0
    obtain ⟨b, off, rfl, hb, -⟩ := h _ _ h0
    refine ⟨b, off, rfl, hb, fun j v hv => ?_⟩
    have hj : j < 32 := by
      have := (List.getElem?_eq_some_iff.1 hv).1
      rw [List.length_map, ← hK, h32] at this
      exact this
    obtain ⟨b2, off2, e2, -, hc⟩ := h (i * 32 + j) v (by rw [kcells_at Ks hk i j hi hj, hK]; exact hv)
    simp only [Option.some.injEq, Addr.mk.injEq, and_true] at e2
    obtain ⟨rfl, rfl⟩ := e2
    rw [Nat.add_assoc]
    exact hc
theorem load_mid {w : World} {b o : Nat} {K : List Int} (h : w.rangeAt b o (K.map (Value.int .u8))) (hK : K.length = 32) : (Instr.loadAt 34 (.pointer (some ⟨b, o, none⟩))).run Try.prog w = .ok (.agg (w8s K)) w :=
  run_loadAt_mid w b o 34 (K.map (Value.int .u8)) (.array 32 5) h (by kernel_rfl) rfl (by rw [List.length_map, hK]; kernel_rfl)
theorem load_key {w : World} {g : Nat} {K : List Int} (h : Bx w g (w8s K) 34) (hK : K.length = 32) : (Instr.loadAt 34 (.pointer (some ⟨g, 0, none⟩))).run Try.prog w = .ok (.agg (w8s K)) w :=
  load_mid (fun j v hv => by
    rw [cell_of_row w g _ _ _ (0, 0) h]
    simpa using hv) hK
theorem idx_key (b off n c k : Nat) (hk : k < n) (V : World) (ρ : Operand → Value) (o : Oper) {x y : Operand} (ho : o.op = .indexAddr 30 x y) (hx : ρ x = .slice (some ⟨b, off, none⟩) n c) (hy : ρ y = .int .i64 k) : (execOp ρ o).run Try.prog V = .ok (.value (.pointer (some ⟨b, off + k * 32, none⟩))) V := by
  have hs : (sizeOf (Try.prog.elem 30)).run Try.prog V = .ok 32 V := by kernel_rfl
  have hlm : (k : Int) < (n : Int) := by omega
  unfold execOp
  simp only [ho, hx, hy]
  go_simp
theorem bx_one (K : List Int) (w : World) : Cs (w.alloc (.cells (w8s K) 34)) (some ⟨w.heap.size, 0, none⟩) (kcells [K]) := by
  have := Cs.block (t := 34) (fr := (0, 0)) (cs := K.map (Value.int .u8)) (heap_alloc_last w (.cells (w8s K) 34))
  rw [show kcells [K] = K.map (Value.int .u8) by simp [kcells]]
  exact this
theorem own_k {w : World} {B n : Nat} {v : Value} {Ks : List (List Int)} (h : w.ownsRow B 34 32 v n (kcells Ks)) : ∃ a c, v = .slice a n c ∧ Cs w a (kcells Ks) ∧ n ≤ c := own_cs h
end Go.Proofs.Ytjblfpifhbmfoaa
