/-
  Keys: two by ==, rows of keys, strings as lists, slices of keys written out, appended to, guarded operations one at a time. No function of the program. Arguments opened: a key, a slice of keys.
-/
import Derived.Test.YtebnlklodokhkaaDoorSP1
import Derived.Deep.RegionHeld3
import Derived.OneCell
import Derived.Deep.Slices
import Derived.Maps.AppendAt
namespace Go.Proofs.YtebnlklodokhkaaDoor
set_option maxRecDepth 100000
open Go.RowKit

theorem all_same : ∀ (A B : List Int), A.length = B.length → ((List.range A.length).all fun i => A.getD i 0 == B.getD i 0) = (A == B)
  | [], [], _ => rfl
  | x :: xs, y :: ys, h => by
    have ih := all_same xs ys (by simpa using h)
    rw [List.length_cons, List.range_succ_eq_map, List.all_cons, List.all_map]
    simp only [List.getD_cons_zero, Function.comp_def, List.getD_cons_succ, ih]
    simp [List.cons_beq_cons]
  | [], _ :: _, h => by simp at h
  | _ :: _, [], h => by simp at h

theorem keys_cmp {P : Program} (w : World) (d t e n : Nat) (ht : P.underlying t = some (.array n e)) (he : P.underlying e = some (.int .u8)) (hsz : ∀ w, (sizeOf e).run P w = .ok 1 w) (A B : List Int) (hx : A.length = n) (hy : B.length = n) :
    (Op.equalIn (d + 2) t (.agg (w8s A)) (.agg (w8s B))).run P w = .ok (A == B) w := by
  rw [← all_same A B (hx.trans hy.symm), hx, List.range_eq_range', Op.equalIn]
  simp only [Sem.run_bind, run_underlying ht, Result.andThen_ok, hsz, Std.Legacy.Range.forIn_eq_forIn_range', Std.Legacy.Range.size, Nat.sub_zero, Nat.add_sub_cancel, Nat.div_one]
  have hl : ∀ i ∈ List.range' 0 n 1, i < n := fun i hi => by simpa using (List.mem_range'_1.1 hi).2
  generalize List.range' 0 n 1 = l at hl ⊢
  induction l with
  | nil => simp
  | cons i l ih =>
    have hi : i < n := hl i (by simp)
    have px : (part e (w8s A) (i * 1)).run P w = .ok (.int .u8 (A.getD i 0)) w := by
      simp [part, isAgg, run_underlying he, List.getD, List.getElem?_eq_getElem (show i < A.length by omega)]
    have py : (part e (w8s B) (i * 1)).run P w = .ok (.int .u8 (B.getD i 0)) w := by
      simp [part, isAgg, run_underlying he, List.getD, List.getElem?_eq_getElem (show i < B.length by omega)]
    have pe : (Op.equalIn (d + 1) e (.int .u8 (A.getD i 0)) (.int .u8 (B.getD i 0))).run P w = .ok (A.getD i 0 == B.getD i 0) w := run_equalIn_int w d e .u8 .u8 _ _ he
    simp only [List.forIn_cons, Sem.run_bind, px, py, pe, Result.andThen_ok, List.all_cons]
    cases hb : (A.getD i 0 == B.getD i 0)
    · simp
    · simp only [Bool.not_true, Bool.false_eq_true, if_false, Sem.run_pure, Result.andThen_ok, Bool.true_and]
      exact ih fun j hj => hl j (by simp [hj])
theorem key_cmp (A B : List Int) (hA : A.length = 32) (hB : B.length = 32) (w : World) : (Op.equalIn 10000 32 (.agg (w8s A)) (.agg (w8s B))).run Tryd.prog w = .ok (A == B) w :=
  keys_cmp w 9998 32 5 32 (by kernel_rfl) Tryd.underlying5 (fun w => by kernel_rfl) A B hA hB
/-- Keys lie in a row. -/
def Rk (w : World) (al : Option Addr) (Ks : List (List Int)) : Prop :=
  ∀ i, i < Ks.length → ∃ b off, al = some ⟨b, off, none⟩ ∧ b < w.heap.size ∧ w.rangeAt b (off + i * 32) ((Ks.getD i []).map (Value.int .u8)) ∧ (Ks.getD i []).length = 32
theorem Rk.below {w w' : World} {al : Option Addr} {Ks : List (List Int)} (h : Rk w al Ks) (hb : Below w.heap.size w w') : Rk w' al Ks := fun i hi => by
  obtain ⟨b, off, e, hlt, hr, hl⟩ := h i hi
  refine ⟨b, off, e, by have := hb.size; omega, fun j v hv => ?_, hl⟩
  rw [hb.cell (p := ⟨b, off + i * 32 + j, none⟩) hlt]
  exact hr j v hv

theorem wp_region_class {P : Program} {id : Nat} {Q : Exit → Act → World → Prop} {a : Act} {w : World} {l : List Oper} (C : World → Prop) (hm : P.follows .mixedOrders = true) (hB : Region.lexB .any l.toArray = true) (hC : C { w with drawn := w.drawn + 1 })
    (h : wpQuiet P l.toArray C (fun a' => ∀ w', C w' → Q .normal a' w') l a) : (Code.region id l.toArray true).wp P Q a w :=
  wp_region_quiet (C := C) hm hB hC (by simpa using h)
theorem Ab.range {w : World} {g t : Nat} {L : List Int} (h : Ab w g t L) : w.rangeAt g 0 (L.map (Value.int .u8)) := fun j v hv => by
  rw [cell_of_row w g _ _ t (0, 0) h]
  simpa using hv
theorem Rk.take {w : World} {al : Option Addr} {Ks : List (List Int)} (h : Rk w al Ks) (n : Nat) : Rk w al (Ks.take n) := fun i hi => by
  have hi' : i < Ks.length := by simp at hi; omega
  obtain ⟨b, off, e, hb, hr, hl⟩ := h i hi'
  have q : (Ks.take n).getD i [] = Ks.getD i [] := by
    simp only [List.getD]
    rw [List.getElem?_take_of_lt (by simp at hi; omega)]
  exact ⟨b, off, e, hb, by rw [q]; exact hr, by rw [q]; exact hl⟩
/-- 'l[:h]' yields v. -/
theorem wpQ_slice_to {P : Program} {C : World → Prop} {ops : Array Oper} {Q : Act → Prop} {a : Act} {op : Oper} {rest : List Oper} (hgd : op.guard = none) (ty : TypeId) (x h : Operand) (ho : op.op = .slice ty x none (some h) none)
    (vx vh v : Value) (hx : a.eval x = vx) (hh : a.eval h = vh) (hs : ∀ w, C w → (Instr.sliceAt ty vx none (some vh) none).run P w = .ok v w)
    (hK : wpQuiet P ops C Q rest (a.put op.dst v)) : wpQuiet P ops C Q (op :: rest) a := by
  refine wpQ_val hgd v (fun w hC => ?_) hK
  unfold execOp
  simp only [ho, hx, hh, Option.map_some, Option.map_none, Sem.run_bind, hs w hC]
  rfl

theorem slice_key (g : Nat) (w : World) : (Instr.sliceAt 32 (.pointer (some ⟨g, 0, none⟩)) none none none).run Tryd.prog w = .ok (.slice (some ⟨g, 0, none⟩) 32 32) w := by
  kernel_rfl
/-- 'k[:]' yields v. -/
theorem wpQ_slice_all {P : Program} {C : World → Prop} {ops : Array Oper} {Q : Act → Prop} {a : Act} {op : Oper} {rest : List Oper} (hgd : op.guard = none) (ty : TypeId) (x : Operand) (ho : op.op = .slice ty x none none none)
    (vx v : Value) (hx : a.eval x = vx) (hs : ∀ w, C w → (Instr.sliceAt ty vx none none none).run P w = .ok v w)
    (hK : wpQuiet P ops C Q rest (a.put op.dst v)) : wpQuiet P ops C Q (op :: rest) a := by
  refine wpQ_val hgd v (fun w hC => ?_) hK
  unfold execOp
  simp only [ho, hx, Option.map_none, Sem.run_bind, hs w hC]
  rfl

/-- 'append' to a row of the call's own, from whatever source, inside a region that draws its order. -/
theorem step_append_srcK {P : Program} {w : World} {ops : Array Oper} {o : Oper} {a : Act} {K : Act → World → Prop} {Q : Exit → Act → World → Prop} {E : Prop} (hgd : o.guard = none) (s x : Operand) (t : TypeId)
    (ho : o.op = .call { callee := .builtin .append, args := #[s, x], argTypes := #[t, t] })
    (base : Nat) (i : TypeInfo) (ht : P.underlying t = some (.slice 5)) (hi : P.info? 5 = some i) (hz : i.zero = some (.int .u8 0)) (hsize : i.size = 1) (hby : i.bytes = 1)
    (v : Value) (n : Nat) (xs : List Value) (hs : a.eval s = v) (hown : w.ownsRow base 5 1 v n xs)
    (ad : Option Addr) (m c : Nat) (L : List Int) (hx : a.eval x = .slice ad m c) (hm : L.length = m) (hr : Sl w ad c L) (hb : n + m ≤ 140737488355328) (hbase : base ≤ w.heap.size)
    (h : ∀ v' w', w'.ownsRow base 5 1 v' (n + m) (xs ++ L.map (Value.int .u8)) → w.grownBy w' v.ownBlock → K (a.put o.dst v') w') :
    if Region.wanted o (yielded ops a.tmps) = true then Oper.wp P o a w K Q else E := by
  have hw : Region.wanted o (yielded ops a.tmps) = true := by simp [Region.wanted, hgd]
  rw [if_pos hw]
  subst hm
  rcases hr with ⟨rfl, rfl, rfl⟩ | ⟨y, rfl, hy⟩
  · have hrun := run_append_owned_none (P := P) (w := w) base t o.type 5 i 1 ht hi v n xs hown
    unfold Oper.wp
    simp [execOp, ho, resolve, invoke, builtin, hs, hx, hrun, Result.andThen]
    exact h v w (by simpa using hown) (World.grownBy.refl w _)
  · refine wp_append_own w s x t ho base 5 i (.int .u8 0) 1 1 ht hi hz hsize hby rfl (by decide) v n xs hs hown y L.length c (L.map (Value.int .u8)) hx (by simp) ?_ (ints_oneCell _ _) (by unfold maxLen; omega) (by omega) hbase (fun v' w' h1 h2 _ => h v' w' h1 h2)
    intro j u hj
    have hj' : j < L.length := by
      rcases Nat.lt_or_ge j L.length with h | h
      · exact h
      · rw [List.getElem?_eq_none (by simpa using h)] at hj; cases hj
    obtain ⟨b, off, rfl, hc⟩ := hy j hj'
    rw [Go.WideShapes.add_plain, hc]
    rw [List.getElem?_map, List.getElem?_eq_getElem hj'] at hj
    rw [List.getD_eq_getElem?_getD, List.getElem?_eq_getElem hj']
    exact hj


theorem key_index (K : List Int) (i : Nat) (hK : K.length = 32) (h : i < 32) (w : World) : (Instr.index 32 (.agg (w8s K)) (.int .i64 (i : Int))).run Tryd.prog w = .ok (.int .u8 (K.getD i 0)) w := by
  refine run_index_agg 32 5 32 .i64 _ i _ w (by kernel_rfl) h (by kernel_rfl) (by kernel_rfl) ?_
  simp [w8s, List.getD, List.getElem?_eq_getElem (show i < K.length by omega)]


/-- The bytes of a string. -/
def nums (s : ByteArray) : List Int := s.data.toList.map fun x => (x.toNat : Int)
theorem nums_len (s : ByteArray) : (nums s).length = s.size := by
  unfold nums
  rw [List.length_map, Array.length_toList]
  rfl
theorem nums_at (s : ByteArray) (i : Nat) (h : i < s.size) : (nums s).getD i 0 = ((s[i]'h).toNat : Int) := by
  have h2 : i < s.data.toList.length := by rw [Array.length_toList]; exact h
  unfold nums
  rw [getD_lt _ i 0 (by simpa using h2), List.getElem_map]
  rfl
theorem nums_byte (s : ByteArray) : ∀ x, x ∈ nums s → W8 x := by
  intro x hx
  obtain ⟨b, -, rfl⟩ := List.mem_map.1 hx
  have := b.toNat_lt
  exact ⟨by omega, by omega⟩
theorem nums_str (L : List Int) (h : ∀ x, x ∈ L → W8 x) : nums (strOfNums L) = L := by
  unfold nums
  rw [strOfNums_data, List.map_map]
  conv => rhs; rw [← List.map_id L]
  apply List.map_congr_left
  intro x hx
  obtain ⟨h0, h1⟩ := h x hx
  simp
  omega
theorem str_nums (s : ByteArray) : strOfNums (nums s) = s := by
  apply ByteArray.ext
  apply Array.toList_inj.1
  rw [strOfNums_data, nums, List.map_map]
  conv => rhs; rw [← List.map_id s.data.toList]
  apply List.map_congr_left
  intro x _
  simp
theorem str_index (s : ByteArray) (i : Nat) (h : i < s.size) (w : World) : (Instr.index 9 (.string s) (.int .i64 (i : Int))).run Tryd.prog w = .ok (.int .u8 ((nums s).getD i 0)) w := by
  have hc : 0 ≤ (i : Int) ∧ (i : Int) < s.size := by omega
  rw [run_index_string _ _ _ _ _ Tryd.underlying9, dif_pos hc, nums_at s i h]
  rfl
/-- An index yields v. -/
theorem wpQ_index {P : Program} {C : World → Prop} {ops : Array Oper} {Q : Act → Prop} {a : Act} {op : Oper} {rest : List Oper} (hgd : op.guard = none) (ty : TypeId) (x i : Operand) (ho : op.op = .index ty x i)
    (vx vi v : Value) (hx : a.eval x = vx) (hi : a.eval i = vi) (hs : ∀ w, C w → (Instr.index ty vx vi).run P w = .ok v w)
    (hK : wpQuiet P ops C Q rest (a.put op.dst v)) : wpQuiet P ops C Q (op :: rest) a := by
  refine wpQ_val hgd v (fun w hC => ?_) hK
  unfold execOp
  simp only [ho, hx, hi, Sem.run_bind, hs w hC]
  rfl
/-- The results: a key in memory, and an error. -/
theorem results_key {P : Program} {fn : Func} {tmps : Array Value} {w : World} {g t : Nat} {v : Value} {K : List Int} {e : Nat} (hr : fn.results = #[.cell 2 32, .tmp 3]) (h2 : tmps.getD 2 undef = .pointer (some ⟨g, 0, none⟩)) (h3 : tmps.getD 3 undef = v)
    (hA : Ab w g t K) (hu : P.underlying 32 = some (.array 32 e)) (hi : (P.info? 32).map (·.size) = some K.length) : (results fn tmps).run P w = .ok (.tuple #[.agg (w8s K), v]) w := by
  have hl := run_loadVar_row (P := P) w g t 32 (w8s K) (0, 0) (.array 32 e) hA hu rfl (by rw [hi]; simp)
  unfold results
  rw [hr]
  have h2' : tmps[2]?.getD undef = .pointer (some ⟨g, 0, none⟩) := by simpa using h2
  have h3' : tmps[3]?.getD undef = v := by simpa using h3
  simp [h2', h3', asAddr, hl, Result.andThen]
theorem take_next (Ks : List (List Int)) (i : Nat) (h : i < Ks.length) : Ks.take (i + 1) = Ks.take i ++ [Ks.getD i []] := by
  rw [List.take_succ_eq_append_getElem h]
  have : Ks.getD i [] = Ks[i] := by simp [List.getD, List.getElem?_eq_getElem h]
  rw [this]
theorem Rk.all {w : World} {al : Option Addr} {Ks : List (List Int)} (h : Rk w al Ks) : ∀ k ∈ Ks, k.length = 32 := fun k hk => by
  obtain ⟨i, hi, rfl⟩ := List.getElem_of_mem hk
  obtain ⟨-, -, -, -, -, hl⟩ := h i hi
  have : Ks.getD i [] = Ks[i] := by simp [List.getD, List.getElem?_eq_getElem hi]
  rwa [this] at hl

theorem foldl_set : ∀ (l : List Value) (s o : Nat) (cs : Array Value), ((l.zipIdx s).foldl (fun cs x => cs.setIfInBounds (o + x.2) x.1) cs).size = cs.size ∧
    ∀ i, ((l.zipIdx s).foldl (fun cs x => cs.setIfInBounds (o + x.2) x.1) cs)[i]? = if o + s ≤ i ∧ i < o + s + l.length ∧ i < cs.size then l[i - (o + s)]? else cs[i]?
  | [], s, o, cs => by
    refine ⟨rfl, fun i => ?_⟩
    simp only [List.zipIdx_nil, List.foldl_nil, List.length_nil]
    rw [if_neg (by omega)]
  | v :: l, s, o, cs => by
    obtain ⟨h1, h2⟩ := foldl_set l (s + 1) o (cs.setIfInBounds (o + s) v)
    simp only [List.zipIdx_cons, List.foldl_cons]
    refine ⟨h1.trans (by simp), fun i => ?_⟩
    rw [h2 i]
    simp only [Array.size_setIfInBounds, List.length_cons]
    by_cases hi : i = o + s
    · subst hi
      rw [if_neg (by omega)]
      by_cases hb : o + s < cs.size
      · rw [if_pos (by omega), Array.getElem?_setIfInBounds_self_of_lt hb]
        simp
      · rw [if_neg (by omega), Array.getElem?_eq_none (by simp; omega), Array.getElem?_eq_none (by omega)]
    · rw [Array.getElem?_setIfInBounds_ne (by omega)]
      by_cases hr : o + (s + 1) ≤ i ∧ i < o + (s + 1) + l.length ∧ i < cs.size
      · rw [if_pos hr, if_pos (by omega)]
        have : i - (o + s) = (i - (o + (s + 1))) + 1 := by omega
        rw [this, List.getElem?_cons_succ]
      · rw [if_neg hr, if_neg (by omega)]
theorem agg_fold (c : Array Value) (o : Nat) (cs : Array Value) : (c.zipIdx.foldl (fun cs (x, j) => cs.setIfInBounds (o + j) x) cs) = ((c.toList.zipIdx 0).foldl (fun cs x => cs.setIfInBounds (o + x.2) x.1) cs) := by
  rw [← Array.foldl_toList, Array.toList_zipIdx]
theorem size_w8s (K : List Int) : (w8s K).size = K.length := by simp
theorem get_w8s (K : List Int) (i : Nat) : (w8s K).toList[i]? = (w8s K)[i]? := by simp
/-- One key. -/
theorem fill_one (Z : Array Value) (K : List Int) (hZ : Z.size = 32) (hK : K.length = 32) : Instr.fill (fun i => some (i * 32, 32)) Z [(0, .agg (w8s K))] = some (w8s K) := by
  have hs : (Value.agg (w8s K)).cells = w8s K := rfl
  unfold Instr.fill
  simp only [hs, size_w8s, hK, hZ]
  rw [if_neg (by simp)]
  unfold Instr.fill
  congr 1
  rw [agg_fold]
  obtain ⟨h1, h2⟩ := foldl_set (w8s K).toList 0 (0 * 32) Z
  apply Array.ext_getElem?
  intro i
  rw [h2 i, get_w8s]
  have hl : (w8s K).toList.length = 32 := by rw [Array.length_toList, size_w8s, hK]
  rw [hl, hZ]
  by_cases hi : i < 32
  · rw [if_pos (by omega)]
    simp
  · rw [if_neg (by omega), Array.getElem?_eq_none (by omega), Array.getElem?_eq_none (by rw [size_w8s]; omega)]
/-- Two keys. -/
theorem fill_two (Z : Array Value) (A B : List Int) (hZ : Z.size = 64) (hA : A.length = 32) (hB : B.length = 32) : Instr.fill (fun i => some (i * 32, 32)) Z [(0, .agg (w8s A)), (1, .agg (w8s B))] = some (w8s (A ++ B)) := by
  have hs : ∀ K, (Value.agg (w8s K)).cells = w8s K := fun _ => rfl
  unfold Instr.fill
  simp only [hs, size_w8s, hA, hZ]
  rw [if_neg (by simp)]
  unfold Instr.fill
  rw [agg_fold]
  obtain ⟨h1, h2⟩ := foldl_set (w8s A).toList 0 (0 * 32) Z
  generalize (List.foldl (fun cs (x : Value × Nat) => cs.setIfInBounds (0 * 32 + x.2) x.1) Z ((w8s A).toList.zipIdx 0)) = Y at *
  simp only [hs, size_w8s, hB, h1, hZ]
  rw [if_neg (by simp)]
  unfold Instr.fill
  congr 1
  rw [agg_fold]
  obtain ⟨h3, h4⟩ := foldl_set (w8s B).toList 0 (1 * 32) Y
  apply Array.ext_getElem?
  intro i
  rw [h4 i, h2 i, get_w8s, get_w8s]
  have hl : (w8s A).toList.length = 32 := by rw [Array.length_toList, size_w8s, hA]
  have hl2 : (w8s B).toList.length = 32 := by rw [Array.length_toList, size_w8s, hB]
  rw [hl, hl2, h1, hZ]
  by_cases hi : i < 32
  · rw [if_neg (by omega), if_pos (by omega)]
    simp [List.getElem?_append, hA, hi]
  · by_cases hj : i < 64
    · rw [if_pos (by omega)]
      simp [List.getElem?_append, hA, hi]
    · rw [if_neg (by omega), if_neg (by omega), Array.getElem?_eq_none (by omega), Array.getElem?_eq_none (by rw [size_w8s, List.length_append]; omega)]
theorem infoKB : (Tryd.prog.info? 32).map (fun i => (i.zero, i.size, i.bytes)) = some (some (.agg (w8s (List.replicate 32 0))), 32, 32) := by kernel_rfl
/-- A slice that is written out, at the operation. -/
theorem build_to {P : Program} {ops : Array Oper} {rest : List Oper} {o : Oper} {a : Act} {w : World} {Q : Exit → Act → World → Prop} (hgd : o.guard = none) (d : Option Tmp) (hd : o.dst = d) (t : TypeId) (len : Nat) (parts : Array (Nat × Operand)) (ho : o.op = .buildSlice t len parts)
    (vs : Array (Nat × Value)) (hp : (parts.map fun (i, x) => (i, a.eval x)) = vs) (v : Value) (w2 : World) (hr : (Instr.buildSlice t len vs).run P w = .ok v w2) (k : wpList P ops Q rest (a.put d v) w2) : wpList P ops Q (o :: rest) a w := by
  refine run_to hgd d hd v w2 ?_ k
  unfold execOp
  simp only [ho, Sem.run_bind, hp, hr, Result.andThen_ok]
  rfl
/-- The cells of keys in a row. -/
def kcells (Ks : List (List Int)) : List Value := Ks.flatMap fun k => k.map (Value.int .u8)
theorem kcells_snoc (Ks : List (List Int)) (k : List Int) : kcells (Ks ++ [k]) = kcells Ks ++ k.map (Value.int .u8) := by simp [kcells]
theorem kcells_len (Ks : List (List Int)) (h : ∀ k ∈ Ks, k.length = 32) : (kcells Ks).length = Ks.length * 32 := by
  induction Ks with
  | nil => rfl
  | cons k Ks ih =>
    have : kcells (k :: Ks) = k.map (Value.int .u8) ++ kcells Ks := rfl
    rw [this, List.length_append, ih (fun k hk => h k (by simp [hk])), List.length_map, h k (by simp), List.length_cons]
    omega
theorem kcells_at (Ks : List (List Int)) (h : ∀ k ∈ Ks, k.length = 32) : ∀ i j, i < Ks.length → j < 32 → (kcells Ks)[i * 32 + j]? = ((Ks.getD i []).map (Value.int .u8))[j]? := by
  induction Ks with
  | nil => intro i j hi; simp at hi
  | cons k Ks ih =>
    intro i j hi hj
    have e : kcells (k :: Ks) = k.map (Value.int .u8) ++ kcells Ks := rfl
    have hk : (k.map (Value.int .u8)).length = 32 := by rw [List.length_map]; exact h k (by simp)
    rw [e]
    cases i with
    | zero => rw [List.getElem?_append_left (by omega)]; simp
    | succ i =>
      rw [List.getElem?_append_right (by omega), hk, show (i + 1) * 32 + j - 32 = i * 32 + j by omega, ih (fun k hk => h k (by simp [hk])) i j (by simpa using hi) hj]
      simp
/-- A row of keys that the call made. -/
def OwnK (w : World) (B : Nat) (v : Value) (Ks : List (List Int)) : Prop := w.ownsRow B 32 32 v Ks.length (kcells Ks) ∧ ∀ k ∈ Ks, k.length = 32
theorem OwnK.rk {w : World} {B : Nat} {v : Value} {Ks : List (List Int)} (h : OwnK w B v Ks) : ∃ a c, v = .slice a Ks.length c ∧ Rk w a Ks ∧ Ks.length ≤ c := by
  obtain ⟨h, hk⟩ := h
  rcases h.2 with ⟨rfl, h0⟩ | ⟨g, cap, cur, rfl, hb, hg, hcap, hm, hcs, htk⟩
  · exact ⟨none, 0, by rw [h0], fun i hi => by omega, by omega⟩
  · refine ⟨some ⟨g, 0, none⟩, cap, rfl, fun i hi => ⟨g, 0, rfl, (Array.getElem?_eq_some_iff.1 hg).1, fun j v hv => ?_, ?_⟩, hcap⟩
    · have hkl : (Ks.getD i []).length = 32 := by
        have : Ks.getD i [] = Ks[i] := by simp [List.getD, List.getElem?_eq_getElem hi]
        rw [this]
        exact hk _ (List.getElem_mem hi)
      have hj : j < 32 := by
        rcases Nat.lt_or_ge j 32 with h | h
        · exact h
        · rw [List.getElem?_eq_none (by rw [List.length_map, hkl]; exact h)] at hv; cases hv
      have hk' := h.cells (g := g) rfl (i * 32 + j) v (by rw [kcells_at Ks hk i j hi hj]; exact hv)
      rw [← hk', Nat.zero_add]
      rw [Go.WideShapes.add_plain, Nat.zero_add]
    · have : Ks.getD i [] = Ks[i] := by simp [List.getD, List.getElem?_eq_getElem hi]
      rw [this]
      exact hk _ (List.getElem_mem hi)
theorem OwnK.nil (w : World) (B : Nat) : OwnK w B (.slice none 0 0) [] := ⟨World.ownsRow_nil _ _ _ _, fun _ h => by cases h⟩
theorem OwnK.below {w w' : World} {B : Nat} {v : Value} {Ks : List (List Int)} (h : OwnK w B v Ks) (hb : Below w.heap.size w w') : OwnK w' B v Ks := ⟨own_below h.1 hb, h.2⟩
theorem OwnK.base {w : World} {B B' : Nat} {v : Value} {Ks : List (List Int)} (h : OwnK w B' v Ks) (hB : B ≤ B') : OwnK w B v Ks := ⟨World.ownsRow.mono h.1 hB, h.2⟩
section
variable {P : Program} {ops : Array Oper} {rest : List Oper} {o : Oper} {a : Act} {w : World} {Q : Exit → Act → World → Prop}

theorem gw_val (hw : Region.wanted o (yielded ops a.tmps) = true) (d : Option Tmp) (hd : o.dst = d) (v : Value) (hr : (execOp a.eval o).run P w = .ok (.value v) w) (k : wpList P ops Q rest (a.put d v) w) : wpList P ops Q (o :: rest) a w := by
  rw [← hd] at k
  apply wpList_step
  intro K hK
  rw [if_pos hw, Oper.wp, hr, Oper.upon_value]
  exact hK _ _ k
theorem gw_new (hw : Region.wanted o (yielded ops a.tmps) = true) (d : Option Tmp) (hd : o.dst = d) (v : Value) (w2 : World) (hr : (execOp a.eval o).run P w = .ok (.value v) w2) (k : wpList P ops Q rest (a.put d v) w2) : wpList P ops Q (o :: rest) a w := by
  rw [← hd] at k
  apply wpList_step
  intro K hK
  rw [if_pos hw, Oper.wp, hr, Oper.upon_value]
  exact hK _ _ k
theorem gw_not (hw : Region.wanted o (yielded ops a.tmps) = false) (d : Option Tmp) (hd : o.dst = d) (k : wpList P ops Q rest (a.put d undef) w) : wpList P ops Q (o :: rest) a w := by
  rw [← hd] at k
  exact wpList_skip hw k
theorem gw_call (hw : Region.wanted o (yielded ops a.tmps) = true) (d : Option Tmp) (hd : o.dst = d) (f : FuncId) (args : Array Value) (v : Value) (S : World → Prop) (hr : (execOp a.eval o).run P w = .ok (.enter f args) w)
    (hc : Calls P f args w fun e w' => e = .returned v ∧ S w') (k : ∀ w', S w' → wpList P ops Q rest (a.put d v) w') : wpList P ops Q (o :: rest) a w := by
  rw [← hd] at k
  apply wpList_step
  intro K hK
  rw [if_pos hw, Oper.wp, hr]
  refine hc.mono ?_
  rintro e w' ⟨rfl, hS⟩
  exact hK _ _ (k w' hS)
theorem gw_load (hw : Region.wanted o (yielded ops a.tmps) = true) (d : Option Tmp) (hd : o.dst = d) (ty : TypeId) (x : Operand) (ho : o.op = .load ty x) (ad : Addr) (v : Value)
    (hx : a.eval x = .pointer (some ad)) (hl : (Instr.loadAt ty (.pointer (some ad))).run P w = .ok v w) (k : wpList P ops Q rest (a.put d v) w) : wpList P ops Q (o :: rest) a w := by
  refine gw_val hw d hd v ?_ k
  unfold execOp
  simp only [ho, hx, Sem.run_bind, hl]
  rfl
theorem gw_slice_to (hw : Region.wanted o (yielded ops a.tmps) = true) (d : Option Tmp) (hd : o.dst = d) (ty : TypeId) (x h : Operand) (ho : o.op = .slice ty x none (some h) none) (vx vh v : Value) (hx : a.eval x = vx) (hh : a.eval h = vh)
    (hs : (Instr.sliceAt ty vx none (some vh) none).run P w = .ok v w) (k : wpList P ops Q rest (a.put d v) w) : wpList P ops Q (o :: rest) a w := by
  refine gw_val hw d hd v ?_ k
  unfold execOp
  simp only [ho, hx, hh, Option.map_some, Option.map_none, Sem.run_bind, hs]
  rfl
theorem gw_build (hw : Region.wanted o (yielded ops a.tmps) = true) (d : Option Tmp) (hd : o.dst = d) (t : TypeId) (len : Nat) (parts : Array (Nat × Operand)) (ho : o.op = .buildSlice t len parts)
    (vs : Array (Nat × Value)) (hp : (parts.map fun (i, x) => (i, a.eval x)) = vs) (v : Value) (w2 : World) (hr : (Instr.buildSlice t len vs).run P w = .ok v w2) (k : wpList P ops Q rest (a.put d v) w2) : wpList P ops Q (o :: rest) a w := by
  refine gw_new hw d hd v w2 ?_ k
  unfold execOp
  simp only [ho, Sem.run_bind, hp, hr, Result.andThen_ok]
  rfl
end
section
variable {P : Program} {C : World → Prop} {ops : Array Oper} {Q : Act → Prop} {a : Act} {o : Oper} {rest : List Oper}

theorem gq_val (hw : Region.wanted o (yielded ops a.tmps) = true) (d : Option Tmp) (hd : o.dst = d) (v : Value) (hr : ∀ w, C w → (execOp a.eval o).run P w = .ok (.value v) w) (h : wpQuiet P ops C Q rest (a.put d v)) : wpQuiet P ops C Q (o :: rest) a := by
  rw [← hd] at h
  unfold wpQuiet
  rw [if_pos hw]
  refine ⟨v, fun w hC => ?_, h⟩
  unfold Oper.quietAt
  rw [hr w hC]
  exact ⟨rfl, rfl⟩
theorem gq_not (hw : Region.wanted o (yielded ops a.tmps) = false) (d : Option Tmp) (hd : o.dst = d) (h : wpQuiet P ops C Q rest (a.put d undef)) : wpQuiet P ops C Q (o :: rest) a := by
  rw [← hd] at h
  unfold wpQuiet
  rw [if_neg (by rw [hw]; decide)]
  exact h
theorem gq_call (hw : Region.wanted o (yielded ops a.tmps) = true) (d : Option Tmp) (hd : o.dst = d) (f : FuncId) (args : Array Value) (v : Value) (hr : ∀ w, C w → (execOp a.eval o).run P w = .ok (.enter f args) w)
    (hc : ∀ w, C w → Calls P f args w (fun e w'' => e = .returned v ∧ C w'')) (h : wpQuiet P ops C Q rest (a.put d v)) : wpQuiet P ops C Q (o :: rest) a := by
  rw [← hd] at h
  unfold wpQuiet
  rw [if_pos hw]
  refine ⟨v, fun w hC => ?_, h⟩
  unfold Oper.quietAt
  rw [hr w hC]
  exact ⟨rfl, hc w hC⟩
theorem gq_load (hw : Region.wanted o (yielded ops a.tmps) = true) (d : Option Tmp) (hd : o.dst = d) (ty : TypeId) (x : Operand) (ho : o.op = .load ty x) (ad : Addr) (v : Value)
    (hx : a.eval x = .pointer (some ad)) (hl : ∀ w, C w → (Instr.loadAt ty (.pointer (some ad))).run P w = .ok v w) (h : wpQuiet P ops C Q rest (a.put d v)) : wpQuiet P ops C Q (o :: rest) a := by
  refine gq_val hw d hd v (fun w hC => ?_) h
  unfold execOp
  simp only [ho, hx, Sem.run_bind, hl w hC]
  rfl
end
/-- A key in memory is loaded. -/
theorem load_key {w : World} {g t : Nat} {K : List Int} (h : Ab w g t K) (hK : K.length = 32) : (Instr.loadAt 32 (.pointer (some ⟨g, 0, none⟩))).run Tryd.prog w = .ok (.agg (w8s K)) w :=
  run_loadAt_mid w g 0 32 (K.map (Value.int .u8)) (.array 32 5) h.range (by kernel_rfl) rfl (by rw [List.length_map, hK]; kernel_rfl)
theorem key_guard25 : Tryd.prog.eqGuardType Tryd.prog.depth 32 = false := by kernel_rfl
/-- Two keys by == and by !=. -/
theorem eq_key {ρ : Operand → Value} {o : Oper} {x y : Operand} (ho : o.op = .binOp .eql 32 x y 32) (A B : List Int) (hA : A.length = 32) (hB : B.length = 32) (hx : ρ x = .agg (w8s A)) (hy : ρ y = .agg (w8s B)) (w : World) :
    (execOp ρ o).run Tryd.prog w = .ok (.value (.bool (A == B))) w := by
  have h1 := key_cmp A B hA hB w
  have h2 := key_guard25
  unfold execOp
  simp only [ho, hx, hy]
  simp [h1, h2, go_sem]
theorem ne_key {ρ : Operand → Value} {o : Oper} {x y : Operand} (ho : o.op = .binOp .neq 32 x y 32) (A B : List Int) (hA : A.length = 32) (hB : B.length = 32) (hx : ρ x = .agg (w8s A)) (hy : ρ y = .agg (w8s B)) (w : World) :
    (execOp ρ o).run Tryd.prog w = .ok (.value (.bool (!(A == B)))) w := by
  have h1 := key_cmp A B hA hB w
  have h2 := key_guard25
  unfold execOp
  simp only [ho, hx, hy]
  simp [h1, h2, go_sem]
/-- 'append' at the operation, its run known. -/
theorem append_step {P : Program} {w : World} {ops : Array Oper} {rest : List Oper} {o : Oper} {a : Act} {Q : Exit → Act → World → Prop} (hgd : o.guard = none) (d : Option Tmp) (hd : o.dst = d) (ty : TypeId) (hty : o.type = ty) (s x : Operand) (t : TypeId)
    (ho : o.op = .call { callee := .builtin .append, args := #[s, x], argTypes := #[t, t] }) (v u v' : Value) (w' : World) (hs : a.eval s = v) (hx : a.eval x = u)
    (hr : (Builtin.append_ #[t, t] ty #[v, u]).run P w = .ok v' w') (k : wpList P ops Q rest (a.put d v') w') : wpList P ops Q (o :: rest) a w := by
  subst hd
  subst hty
  refine wpList_plain hgd fun K hK => ?_
  unfold Oper.wp execOp
  simp only [ho, resolve, invoke, builtin, Sem.run_bind, Sem.run_pure, Result.andThen_ok, List.map_toArray, List.map_cons, List.map_nil, hs, hx, hr]
  exact hK _ _ k

theorem outs_byte (h : List Int) (n : Nat) : ∀ x, x ∈ outs h n → W8 x := by
  induction n with
  | zero => intro x hx; cases hx
  | succ n ih =>
    intro x hx
    rw [outs] at hx
    rcases List.mem_append.1 hx with hx | hx
    · exact ih x hx
    · rw [List.mem_singleton.1 hx]
      unfold outByte
      exact ⟨by omega, by omega⟩
theorem shaL_byte (L : List Int) : ∀ x, x ∈ shaL L → W8 x := outs_byte _ _
theorem rk_two (A B : List Int) (hA : A.length = 32) (hB : B.length = 32) (w : World) : Rk (w.alloc (.cells (w8s (A ++ B)) 32)) (some ⟨w.heap.size, 0, none⟩) [A, B] := by
  intro i hi
  have hs2 : (w.alloc (.cells (w8s (A ++ B)) 32)).heap.size = w.heap.size + 1 := by simp
  have hi2 : i = 0 ∨ i = 1 := by simp at hi; omega
  refine ⟨w.heap.size, 0, rfl, by omega, fun j v hv => ?_, ?_⟩
  · rw [cell_of_row _ w.heap.size _ _ 32 (0, 0) (heap_alloc_last w _)]
    rcases hi2 with rfl | rfl
    · have hj : j < A.length := by
        rcases Nat.lt_or_ge j A.length with h | h
        · exact h
        · rw [List.getElem?_eq_none (by simpa using h)] at hv; cases hv
      simp only [List.getD_cons_zero] at hv
      rw [show 0 + 0 * 32 + j = j by omega, List.getElem?_toArray, List.map_append, List.getElem?_append_left (by simpa using hj)]
      exact hv
    · simp only [List.getD_cons_succ, List.getD_cons_zero] at hv
      rw [show 0 + 1 * 32 + j = 32 + j by omega, List.getElem?_toArray, List.map_append, List.getElem?_append_right (by rw [List.length_map]; omega), List.length_map, hA, show 32 + j - 32 = j by omega]
      exact hv
  · rcases hi2 with rfl | rfl
    · exact hA
    · exact hB
end Go.Proofs.YtebnlklodokhkaaDoor
namespace Go.Proofs.YtebnlklodokhkaaDoor
set_option maxRecDepth 100000
open Go.ChangeShapes Go.WideShapes Go.ChangeAt Go.RowKit Go.Deep Go.Joins

/-- A list of what is there at each place. -/
theorem list_of {α : Type} {Q : Nat → α → Prop} (n : Nat) (h : ∀ i, i < n → ∃ p, Q i p) : ∃ ps : List α, ps.length = n ∧ ∀ i p, ps[i]? = some p → Q i p := by
  induction n with
  | zero => exact ⟨[], rfl, fun i p hi => by simp at hi⟩
  | succ n ih =>
    obtain ⟨ps, hl, hq⟩ := ih (fun i hi => h i (by omega))
    obtain ⟨p, hp⟩ := h n (by omega)
    refine ⟨ps ++ [p], by simp [hl], fun i q hi => ?_⟩
    by_cases hlt : i < n
    · rw [List.getElem?_append_left (by omega)] at hi
      exact hq i q hi
    · have hb := (List.getElem?_eq_some_iff.1 hi).1
      rw [List.length_append, List.length_singleton] at hb
      obtain rfl : i = n := by omega
      rw [List.getElem?_append_right (by omega), hl] at hi
      simp at hi
      exact hi ▸ hp

section
variable {H : Type} {enc : TypeId × Value → H} {W : World} {fuel : Nat}
theorem key_arg {cs : List Value} {y : DataW H × List MemPlace} (h : DataW.trod enc Tryd.prog W 0 (fun _ => true) true fuel 32 cs = some y) :
    ∃ K : List Int, cs = K.map (Value.int .u8) ∧ K.length = 32 ∧ ∀ x, x ∈ K → W8 x := by
  obtain ⟨xs, m, rfl, rfl, hl, hxl, hi⟩ := DataW.trod_array (n := 32) (e := 5) (by kernel_rfl) h
  have hc25 : Tryd.prog.cellsOf 32 = 32 := by kernel_rfl
  have hc5 : Tryd.prog.cellsOf 5 = 1 := by kernel_rfl
  rw [hc25] at hl
  obtain ⟨K, hKl, hK⟩ := list_of (Q := fun i (z : Int) => cs[i]? = some (.int .u8 z) ∧ W8 z) 32 (fun i hlt => by
    have h1 := hi i hlt
    rw [hc5, Nat.mul_one, List.getElem?_eq_getElem (by omega)] at h1
    obtain ⟨z, ez, -, wz⟩ := DataW.trod_int (k := .u8) Tryd.underlying5 h1
    refine ⟨z, ?_, byte_of_wf wz⟩
    have h2 : ((cs.drop i).take 1)[0]? = some (.int .u8 z) := by rw [ez]; rfl
    rw [List.getElem?_take, if_pos (by omega), List.getElem?_drop, Nat.add_zero] at h2
    exact h2)
  refine ⟨K, ?_, hKl, fun x hx => ?_⟩
  · apply List.ext_getElem?
    intro i
    by_cases hlt : i < 32
    · have hk := hK i (K[i]'(by omega)) (List.getElem?_eq_getElem (by omega))
      rw [hk.1, List.getElem?_map, List.getElem?_eq_getElem (by omega)]
      rfl
    · rw [List.getElem?_eq_none (by omega), List.getElem?_eq_none (by rw [List.length_map]; omega)]
  · obtain ⟨i, hi', rfl⟩ := List.getElem_of_mem hx
    exact (hK i _ (List.getElem?_eq_getElem hi')).2

end
end Go.Proofs.YtebnlklodokhkaaDoor
