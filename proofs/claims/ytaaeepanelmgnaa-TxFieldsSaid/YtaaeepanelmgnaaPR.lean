/-
  Rows of fields from a block on; the program's value, takeText, takeNumber: contracts.
-/
import Derived.Test.YtaaeepanelmgnaaEN
namespace Go.Proofs.Ytaaeepanelmgnaa
open Go.RowKit
set_option linter.unusedSimpArgs false
set_option linter.unusedVariables false

/-- Fields in memory, all in blocks from B on. -/
structure FsB (w : World) (B : Nat) (a : Option Addr) (ps : List (Fld × Value)) : Prop where
  fs : Fs w a ps
  row : ∀ x, a = some x → ps ≠ [] → B ≤ x.block
  byt : ∀ p, p ∈ ps → ∀ x n c, p.2 = .slice (some x) n c → p.1.bytes ≠ [] → B ≤ x.block
  cap : ∀ p, p ∈ ps → ∀ x n c, p.2 = .slice x n c → n ≤ c
theorem FsB.below {w w' : World} {B : Nat} {a : Option Addr} {ps : List (Fld × Value)} (h : FsB w B a ps) (hb : Below w.heap.size w w') : FsB w' B a ps := ⟨h.fs.below hb, h.row, h.byt, h.cap⟩
theorem sl_but {w w' : World} {g : Nat} {a : Option Addr} {c : Nat} {L : List Int} (h : Sl w a c L) (hb : But g w w') (hn : L ≠ [] → ∀ x, a = some x → x.block ≠ g) : Sl w' a c L := by
  rcases h with h | ⟨x, rfl, hx⟩
  · exact .inl h
  · refine .inr ⟨x, rfl, fun k hk => ?_⟩
    obtain ⟨b, off, rfl, hc⟩ := hx k hk
    have hne : b ≠ g := hn (by intro e; rw [e] at hk; simp at hk) _ rfl
    exact ⟨b, off, rfl, (World.cell?_of_block (a := ⟨b, off + k, none⟩) (hb.2 b (World.block_lt_of_cell? w _ hc) hne)).trans hc⟩
theorem box_but {w w' : World} {g b o : Nat} {num kind val : Int} {s : Option Addr} {n d : Nat} (h : Box w b o num kind val s n d) (hb : But g w w') (hn : b ≠ g) : Box w' b o num kind val s n d := by
  obtain ⟨h0, h1, h2, h3⟩ := h
  have key : ∀ q v, w.cell? ⟨b, q, none⟩ = some v → w'.cell? ⟨b, q, none⟩ = some v := fun q v hq => (World.cell?_of_block (a := ⟨b, q, none⟩) (hb.2 b (World.block_lt_of_cell? w _ hq) hn)).trans hq
  exact ⟨key _ _ h0, key _ _ h1, key _ _ h2, key _ _ h3⟩
theorem FsB.but {w w' : World} {B g : Nat} {a : Option Addr} {ps : List (Fld × Value)} (h : FsB w B a ps) (hb : But g w w') (hg : g < B) : FsB w' B a ps := by
  refine ⟨fun i p hp => ?_, h.row, h.byt, h.cap⟩
  obtain ⟨b, off, ba, bc, rfl, h2, hs, hx⟩ := h.fs i p hp
  have hm := List.mem_of_getElem? hp
  have h1 := h.row _ rfl (by intro e; rw [e] at hm; cases hm)
  refine ⟨b, off, ba, bc, rfl, h2, sl_but hs hb (fun hne x hx => ?_), box_but hx hb (by have : B ≤ b := h1; omega)⟩
  subst hx
  have := h.byt p hm x _ _ h2 hne
  omega
theorem FsB.mono {w : World} {B B2 : Nat} {a : Option Addr} {ps : List (Fld × Value)} (h : FsB w B a ps) (hB : B2 ≤ B) : FsB w B2 a ps := ⟨h.fs, fun x hx hn => Nat.le_trans hB (h.row x hx hn), fun p hp x n c e hn => Nat.le_trans hB (h.byt p hp x n c e hn), h.cap⟩
theorem FsB.nil (w : World) (B : Nat) (a : Option Addr) : FsB w B a [] := ⟨fun i p h => by simp at h, fun x _ h => absurd rfl h, fun p h => (by cases h), fun p h => (by cases h)⟩
theorem FsB.tail {w : World} {B : Nat} {a : Option Addr} {p : Fld × Value} {r : List (Fld × Value)} (h : FsB w B a (p :: r)) (c : Nat) (hc : (p :: r).length ≤ c) : FsB w B (fromS 4 a c 1) r := by
  cases r with
  | nil => exact FsB.nil _ _ _
  | cons q r =>
    have hc1 : ¬ c = 1 := by simp at hc; omega
    obtain ⟨b, off, ba, bc, rfl, -⟩ := h.fs 0 p rfl
    have e : fromS 4 (some ⟨b, off, none⟩) c 1 = some ⟨b, off + 4, none⟩ := by
      unfold fromS
      rw [if_neg hc1]
      simp only [Option.map_some]
      rw [Addr.add_mid]
    rw [e]
    refine ⟨fun i p2 hp => ?_, fun x hx _ => ?_, fun p2 hp => h.byt p2 (by simp [hp]), fun p2 hp => h.cap p2 (by simp [hp])⟩
    · obtain ⟨b2, off2, ba2, bc2, e2, h2, hs, hx⟩ := h.fs (i + 1) p2 (by simpa using hp)
      simp only [Option.some.injEq, Addr.mk.injEq, and_true] at e2
      obtain ⟨rfl, rfl⟩ := e2
      refine ⟨b, off + 4, ba2, bc2, rfl, h2, hs, ?_⟩
      rw [show off + 4 + i * 4 = off + (i + 1) * 4 by omega]
      exact hx
    · cases hx
      exact h.row ⟨b, off, none⟩ rfl (by simp)
theorem RowB.fsb {w : World} {B : Nat} {v : Value} {ps : List (Fld × Value)} (h : RowB w B v ps) : ∃ a c, v = .slice a ps.length c ∧ ps.length ≤ c ∧ FsB w B a ps := by
  obtain ⟨a, c, rfl, hc, hf⟩ := h.fs
  refine ⟨a, c, rfl, hc, hf, fun x hx hn => ?_, fun p hp x n d e hn => ?_, fun p hp x n d e => ?_⟩
  · have h0 : 0 < ps.length := List.length_pos_iff.2 hn
    obtain ⟨g, rfl, hg, -⟩ := own_at h.1 h0
    cases hx
    exact hg
  · have ho := h.2 p hp
    rw [e] at ho
    obtain ⟨a2, c2, e2, -, -⟩ := ho.sl
    simp only [Value.slice.injEq] at e2
    have h0 : 0 < p.1.bytes.length := List.length_pos_iff.2 hn
    unfold Own at ho
    rw [e2.2.1] at ho
    obtain ⟨g, hx, hg, -⟩ := own_at ho h0
    cases hx
    exact hg
  · have ho := h.2 p hp
    rw [e] at ho
    obtain ⟨a2, c2, e2, -, hle⟩ := ho.sl
    simp only [Value.slice.injEq] at e2
    omega
/-- What a field contains. -/
def valV (x : Fld) (b : Option Addr) (d : Nat) : Value := if x.kind = 0 then .iface 26 (.int .u64 x.val) else .iface 39 (.slice b x.bytes.length d)
set_option maxRecDepth 100000 in
set_option maxHeartbeats 8000000 in
theorem q_value (x : Fld) (b : Option Addr) (d : Nat) (w : World) : Calls Try.prog 62 #[.agg (fdA x b d)] w fun e w' => e = .returned (valV x b d) ∧ Below w.heap.size w w' := by
  have hb0 : Below w.heap.size w (w.alloc (.cells (fdA x b d) 54)) := (Below.refl _ w).alloc (Nat.le_refl _) _
  have hX0 : Bx (w.alloc (.cells (fdA x b d) 54)) w.heap.size (fdA x b d) 54 := heap_alloc_last w _
  have HB0 := Lib.hid hb0
  have HV1 : Hid (x.kind = 0 → valV x b d = .iface 26 (.int .u64 x.val)) := Lib.hid fun h => if_pos h
  have HV2 : Hid (x.kind ≠ 0 → valV x b d = .iface 39 (.slice b x.bytes.length d)) := Lib.hid fun h => if_neg h
  generalize valV x b d = vv at *
  go_enter Try.func62, Try.ntmps62
  go_upto_region 1 with fail
  change Code.wp _ _ _ _ (w.alloc (.cells (fdA x b d) 54))
  generalize w.alloc (.cells (fdA x b d) 54) = W at *
  obtain ⟨g0, hg0⟩ : ∃ g0, w.heap.size = g0 := ⟨_, rfl⟩
  rw [hg0] at hX0
  simp only [hg0]
  clear hb0 hg0
  by_cases hk : x.kind = 0
  · skip
    have HE := Lib.hid (HV1.out hk)
    clear HV1 HV2
    apply wp_region_lit
    refine gw_val (by kernel_rfl) (some 3) rfl (.pointer (some ⟨g0, 1, none⟩)) (by kernel_rfl) ?_
    simp only [pu1, pu2, pu3, pu4]
    refine gw_load (by kernel_rfl) (some 4) rfl 3 (.tmp 3) rfl ⟨g0, 1, none⟩ (.int .i64 x.kind) (by kernel_rfl) (hX0.load (i := 1) rfl (by kernel_rfl)) ?_
    simp only [pu1, pu2, pu3, pu4]
    refine gw_val (by kernel_rfl) (some 5) rfl (.bool true) (eql_i0 rfl x.kind (decide_eq_true hk) (by kernel_rfl) (by kernel_rfl) _) ?_
    simp only [pu1, pu2, pu3, pu4]
    apply wpList_nil
    go_upto_region 2 with fail
    apply wp_region_lit
    refine gw_val (by kernel_rfl) (some 6) rfl (.pointer (some ⟨g0, 2, none⟩)) (by kernel_rfl) ?_
    simp only [pu1, pu2, pu3, pu4]
    refine gw_load (by kernel_rfl) (some 7) rfl 26 (.tmp 6) rfl ⟨g0, 2, none⟩ (.int .u64 x.val) (by kernel_rfl) (hX0.load (i := 2) rfl (by kernel_rfl)) ?_
    simp only [pu1, pu2, pu3, pu4]
    refine gw_val (by kernel_rfl) (some 8) rfl (.iface 26 (.int .u64 x.val)) (by kernel_rfl) ?_
    simp only [pu1, pu2, pu3, pu4]
    refine gw_val (by kernel_rfl) (some 2) rfl (.iface 26 (.int .u64 x.val)) (by kernel_rfl) ?_
    simp only [pu1, pu2, pu3, pu4]
    apply wpList_nil
    go_wp2_with fail
    go_ret
    rw [HE.out]
    exact ⟨rfl, HB0.out⟩
  · skip
    have HE := Lib.hid (HV2.out hk)
    clear HV1 HV2
    apply wp_region_lit
    refine gw_val (by kernel_rfl) (some 3) rfl (.pointer (some ⟨g0, 1, none⟩)) (by kernel_rfl) ?_
    simp only [pu1, pu2, pu3, pu4]
    refine gw_load (by kernel_rfl) (some 4) rfl 3 (.tmp 3) rfl ⟨g0, 1, none⟩ (.int .i64 x.kind) (by kernel_rfl) (hX0.load (i := 1) rfl (by kernel_rfl)) ?_
    simp only [pu1, pu2, pu3, pu4]
    refine gw_val (by kernel_rfl) (some 5) rfl (.bool false) (eql_i0 rfl x.kind (decide_eq_false hk) (by kernel_rfl) (by kernel_rfl) _) ?_
    simp only [pu1, pu2, pu3, pu4]
    apply wpList_nil
    go_upto_region 3 with fail
    apply wp_region_lit
    refine gw_val (by kernel_rfl) (some 9) rfl (.pointer (some ⟨g0, 3, none⟩)) (by kernel_rfl) ?_
    simp only [pu1, pu2, pu3, pu4]
    refine gw_load (by kernel_rfl) (some 10) rfl 39 (.tmp 9) rfl ⟨g0, 3, none⟩ (.slice b x.bytes.length d) (by kernel_rfl) (hX0.load (i := 3) rfl (by kernel_rfl)) ?_
    simp only [pu1, pu2, pu3, pu4]
    refine gw_val (by kernel_rfl) (some 11) rfl (.iface 39 (.slice b x.bytes.length d)) (by kernel_rfl) ?_
    simp only [pu1, pu2, pu3, pu4]
    refine gw_val (by kernel_rfl) (some 2) rfl (.iface 39 (.slice b x.bytes.length d)) (by kernel_rfl) ?_
    simp only [pu1, pu2, pu3, pu4]
    apply wpList_nil
    go_wp2_with fail
    go_ret
    rw [HE.out]
    exact ⟨rfl, HB0.out⟩
/-- What is taken, and what is left. -/
def TakO (w : World) (B : Nat) (X : Value) (ps : List (Fld × Value)) (rest : List Fld) (e : Ending) (w' : World) : Prop := ∃ a c qs, e = .returned (.tuple #[X, .slice a qs.length c]) ∧ FsB w' B a qs ∧ qs.length ≤ c ∧ qs.map Prod.fst = rest ∧ Below w.heap.size w w'
theorem eql_n {ρ : Operand → Value} {o : Oper} {x y : Operand} (ho : o.op = .binOp .eql 3 x y 3) (a b : Int) {t : Bool} (ht : decide (a = b) = t) (hx : ρ x = .int .i64 a) (hy : ρ y = .int .i64 b) (w : World) : (execOp ρ o).run Try.prog w = .ok (.value (.bool t)) w := by
  have e : (a == b) = t := ht
  unfold execOp
  simp only [ho, hx, hy]
  go_simp
theorem neq_n {ρ : Operand → Value} {o : Oper} {x y : Operand} (ho : o.op = .binOp .neq 3 x y 3) (a b : Int) {t : Bool} (ht : decide (a = b) = t) (hx : ρ x = .int .i64 a) (hy : ρ y = .int .i64 b) (w : World) : (execOp ρ o).run Try.prog w = .ok (.value (.bool (!t))) w := by
  have e : (a != b) = !t := by rw [← ht]; rfl
  unfold execOp
  simp only [ho, hx, hy]
  go_simp
theorem gtr_u0 {ρ : Operand → Value} {o : Oper} {x y : Operand} (ho : o.op = .binOp .gtr 26 x y 26) (a b : Int) {t : Bool} (ht : decide (b < a) = t) (hx : ρ x = .int .u64 a) (hy : ρ y = .int .u64 b) (w : World) : (execOp ρ o).run Try.prog w = .ok (.value (.bool t)) w := by
  rw [← ht]
  unfold execOp
  simp only [ho, hx, hy]
  go_simp
theorem ex_str {ρ : Operand → Value} {o : Oper} {x : Operand} (ho : o.op = .convert 39 9 x) {w : World} {a : Option Addr} {c : Nat} {L : List Int} (h : Sl w a c L) (hx : ρ x = .slice a L.length c) : (execOp ρ o).run Try.prog w = .ok (.value (.string (strOfNums L))) w := by
  have h2 := conv_sl h
  unfold execOp
  simp only [ho, hx, Sem.run_bind, h2]
  rfl
set_option maxRecDepth 100000 in
theorem cut_f_from (a : Option Addr) (n c k : Nat) (w : World) (h : k ≤ n) : (Instr.slice 50 (.slice a n c) (some (.int .i64 (k : Int))) none none).run Try.prog w = .ok (.slice (fromS 4 a c k) (n - k) (c - k)) w :=
  cut_from (s := 4) (by kernel_rfl) (fun w => by kernel_rfl) a n c k w h
set_option maxRecDepth 100000 in
theorem cut_f_from1 (a : Option Addr) (n c : Nat) (w : World) (h : 0 < n) : (Instr.slice 50 (.slice a n c) (some (.int .i64 1)) none none).run Try.prog w = .ok (.slice (fromS 4 a c 1) (n - 1) (c - 1)) w := by
  have q := cut_f_from a n c 1 w h
  have e : ((1 : Nat) : Int) = 1 := rfl
  rwa [e] at q
set_option maxRecDepth 100000 in
theorem ex_cut {ρ : Operand → Value} {o : Oper} {x : Operand} {a : Option Addr} {n c : Nat} {V : World} {v : Value} (ho : o.op = .slice 50 x (some (.const (.int .i64 1))) none none) (hx : ρ x = .slice a n c) (h : (Instr.slice 50 (.slice a n c) (some (.int .i64 1)) none none).run Try.prog V = .ok v V) (hc : ρ (.const (.int .i64 1)) = .int .i64 1) : (execOp ρ o).run Try.prog V = .ok (.value v) V := by
  have h2 : (Instr.sliceAt 50 (.slice a n c) (some (.int .i64 1)) none none).run Try.prog V = .ok v V := h
  unfold execOp
  simp only [ho, hx, Option.map_some, Option.map_none, hc, Sem.run_bind, h2]
  rfl
theorem Sl.drewS {w : World} {a : Option Addr} {c : Nat} {L : List Int} (h : Sl w a c L) : Sl w.drew a c L := h
theorem takT_bad {k : Int} {f : Fld} {r : List Fld} (h : ¬ (f.num = k ∧ f.kind = 2 ∧ f.bytes.length ≠ 0)) : takT k (f :: r) = (mtS, f :: r) := takT_no h
set_option maxRecDepth 100000 in
set_option maxHeartbeats 8000000 in
theorem q_takeText (a : Option Addr) (c : Nat) (ps : List (Fld × Value)) (B : Nat) (k : Int) (w : World) (hF : FsB w B a ps) (hc : ps.length ≤ c) (hv : ∀ f, f ∈ ps.map Prod.fst → Vf f) :
    Calls Try.prog 52 #[.slice a ps.length c, .int .i64 k] w (TakO w B (.string (takT k (ps.map Prod.fst)).1) ps (takT k (ps.map Prod.fst)).2) := by
  cases ps with
  | nil =>
    have HE := Lib.hid (⟨a, c, [], rfl, hF, hc, rfl, Below.refl _ _⟩ : TakO w B (.string ⟨#[]⟩) [] [] (.returned (.tuple #[.string ⟨#[]⟩, .slice a 0 c])) w)
    clear hF hv
    change Calls _ _ #[.slice a 0 c, .int .i64 k] _ (TakO w B (.string ⟨#[]⟩) [] [])
    go_enter Try.func52, Try.ntmps52
    go_upto_region 1 with fail
    apply wp_region_lit
    refine gw_val (by kernel_rfl) (some 8) rfl (.slice a 0 c) (by kernel_rfl) ?_
    simp only [pu1, pu2, pu3, pu4]
    refine gw_val (by kernel_rfl) (some 9) rfl (.int .i64 0) (by kernel_rfl) ?_
    simp only [pu1, pu2, pu3, pu4]
    refine gw_val (by kernel_rfl) (some 10) rfl (.bool false) (gtr_n rfl (0) (0) (decide_eq_false (by decide)) (by kernel_rfl) (by kernel_rfl) _) ?_
    simp only [pu1, pu2, pu3, pu4]
    refine gw_val (by kernel_rfl) (some 11) rfl (.bool false) (by kernel_rfl) ?_
    simp only [pu1, pu2, pu3, pu4]
    with_reducible refine gw_not (by kernel_rfl) (some 12) rfl ?_
    simp only [pu1, pu2, pu3, pu4]
    with_reducible refine gw_not (by kernel_rfl) (some 13) rfl ?_
    simp only [pu1, pu2, pu3, pu4]
    with_reducible refine gw_not (by kernel_rfl) (some 14) rfl ?_
    simp only [pu1, pu2, pu3, pu4]
    with_reducible refine gw_not (by kernel_rfl) (some 15) rfl ?_
    simp only [pu1, pu2, pu3, pu4]
    with_reducible refine gw_not (by kernel_rfl) (some 16) rfl ?_
    simp only [pu1, pu2, pu3, pu4]
    with_reducible refine gw_not (by kernel_rfl) (some 17) rfl ?_
    simp only [pu1, pu2, pu3, pu4]
    refine gw_val (by kernel_rfl) (some 18) rfl (.bool false) (by kernel_rfl) ?_
    simp only [pu1, pu2, pu3, pu4]
    apply wpList_nil
    go_upto_region 5 with fail
    apply wp_region_lit
    refine gw_val (by kernel_rfl) (some 37) rfl (.slice a 0 c) (by kernel_rfl) ?_
    simp only [pu1, pu2, pu3, pu4]
    refine gw_val (by kernel_rfl) (some 4) rfl (.string ⟨#[]⟩) (by kernel_rfl) ?_
    simp only [pu1, pu2, pu3, pu4]
    refine gw_val (by kernel_rfl) (some 5) rfl (.slice a 0 c) (by kernel_rfl) ?_
    simp only [pu1, pu2, pu3, pu4]
    apply wpList_nil
    go_wp2_with fail
    go_ret2
    exact HE.out
  | cons p r =>
    have hvp := hv p.1 (by simp)
    have hF0 := hF
    obtain ⟨b, off, ba, bc, rfl, hp2, hsl, hbox⟩ := hF.fs 0 p rfl
    obtain ⟨n, hn⟩ : ∃ n, (p :: r).length = n := ⟨_, rfl⟩
    have hn0 : 0 < n := by rw [← hn]; simp
    have hNB : Hid (∀ w', Below w.heap.size w w' → takT k ((p :: r).map Prod.fst) = (mtS, (p :: r).map Prod.fst) → TakO w B (.string (takT k ((p :: r).map Prod.fst)).1) (p :: r) (takT k ((p :: r).map Prod.fst)).2 (.returned (.tuple #[.string ⟨#[]⟩, .slice (some ⟨b, off, none⟩) n c])) w') := Lib.hid fun w' hb e => ⟨_, c, p :: r, by rw [hn, e]; rfl, hF0.below hb, hc, by rw [e], hb⟩
    have hTL : Hid (∀ w', Below w.heap.size w w' → TakO w B (.string (strOfNums p.1.bytes)) (p :: r) (r.map Prod.fst) (.returned (.tuple #[.string (strOfNums p.1.bytes), .slice (fromS 4 (some ⟨b, off, none⟩) c 1) (n - 1) (c - 1)])) w') := Lib.hid fun w' hb => ⟨_, c - 1, r, by rw [← hn]; rfl, (hF0.below hb).tail c hc, by simp at hc; omega, rfl, hb⟩
    have hcut := fun V => cut_f_from1 (some ⟨b, off, none⟩) n c V hn0
    have CV := fun V => q_value p.1 ba bc V
    rw [List.map_cons] at hNB ⊢
    rw [hn]
    obtain ⟨x, v⟩ := p
    simp only at *
    have hkd : x.kind = 0 ∨ x.kind = 2 := by
      rcases hvp.1.2.2 with q | q
      · exact .inl q.1
      · exact .inr q.1
    have hld := load_fd (fd_range hbox)
    have hnum := hbox.1
    have hval := hvp.2.1
    generalize r.map Prod.fst = R at *
    clear hF hF0 hv hvp hbox hp2 hn hc
    rcases (show x.num ≠ k ∨ (x.num = k ∧ x.kind = 0) ∨ (x.num = k ∧ x.kind = 2 ∧ 0 < x.bytes.length) ∨ (x.num = k ∧ x.kind = 2 ∧ ¬ (0 < x.bytes.length)) by omega) with hcs | hcs | hcs | hcs
    · skip
      have hE : takT k (x :: R) = (mtS, x :: R) := takT_no (by intro q; omega)
      have HNB := Lib.hid (fun w' hb => hNB.out w' hb hE)
      clear hNB hTL hE
      go_enter Try.func52, Try.ntmps52
      go_upto_region 1 with fail
      apply wp_region_lit
      refine gw_val (by kernel_rfl) (some 8) rfl (.slice (some ⟨b, off, none⟩) n c) (by kernel_rfl) ?_
      simp only [pu1, pu2, pu3, pu4]
      refine gw_val (by kernel_rfl) (some 9) rfl (.int .i64 n) (by kernel_rfl) ?_
      simp only [pu1, pu2, pu3, pu4]
      refine gw_val (by kernel_rfl) (some 10) rfl (.bool true) (gtr_n rfl (n) (0) (decide_eq_true (by omega)) (by kernel_rfl) (by kernel_rfl) _) ?_
      simp only [pu1, pu2, pu3, pu4]
      refine gw_val (by kernel_rfl) (some 11) rfl (.bool true) (by kernel_rfl) ?_
      simp only [pu1, pu2, pu3, pu4]
      refine gw_val (by kernel_rfl) (some 12) rfl (.slice (some ⟨b, off, none⟩) n c) (by kernel_rfl) ?_
      simp only [pu1, pu2, pu3, pu4]
      refine gw_val (by kernel_rfl) (some 13) rfl (.pointer (some ⟨b, off + 0 * 4, none⟩)) (idx_fd b off n c 0 hn0 _ _ _ rfl (by kernel_rfl) (by kernel_rfl)) ?_
      simp only [pu1, pu2, pu3, pu4]
      refine gw_val (by kernel_rfl) (some 14) rfl (.pointer (some ⟨b, off + 0 * 4, none⟩)) (by kernel_rfl) ?_
      simp only [pu1, pu2, pu3, pu4]
      refine gw_load (by kernel_rfl) (some 15) rfl 3 (.tmp 14) rfl ⟨b, off + 0 * 4, none⟩ (.int .i64 x.num) (by kernel_rfl) (load_cell hnum (by kernel_rfl)) ?_
      simp only [pu1, pu2, pu3, pu4]
      refine gw_val (by kernel_rfl) (some 16) rfl (.int .i64 k) (by kernel_rfl) ?_
      simp only [pu1, pu2, pu3, pu4]
      refine gw_val (by kernel_rfl) (some 17) rfl (.bool false) (eql_n rfl (x.num) (k) (decide_eq_false (hcs)) (by kernel_rfl) (by kernel_rfl) _) ?_
      simp only [pu1, pu2, pu3, pu4]
      refine gw_val (by kernel_rfl) (some 18) rfl (.bool false) (by kernel_rfl) ?_
      simp only [pu1, pu2, pu3, pu4]
      apply wpList_nil
      have HE := Lib.hid (HNB.out w (Below.refl _ _))
      clear HNB
      go_upto_region 5 with fail
      apply wp_region_lit
      refine gw_val (by kernel_rfl) (some 37) rfl (.slice (some ⟨b, off, none⟩) n c) (by kernel_rfl) ?_
      simp only [pu1, pu2, pu3, pu4]
      refine gw_val (by kernel_rfl) (some 4) rfl (.string ⟨#[]⟩) (by kernel_rfl) ?_
      simp only [pu1, pu2, pu3, pu4]
      refine gw_val (by kernel_rfl) (some 5) rfl (.slice (some ⟨b, off, none⟩) n c) (by kernel_rfl) ?_
      simp only [pu1, pu2, pu3, pu4]
      apply wpList_nil
      go_wp2_with fail
      go_ret2
      exact HE.out
    · skip
      have hE : takT k (x :: R) = (mtS, x :: R) := takT_no (by intro q; omega)
      have HNB := Lib.hid (fun w' hb => hNB.out w' hb hE)
      clear hNB hTL hE
      go_enter Try.func52, Try.ntmps52
      go_upto_region 1 with fail
      apply wp_region_lit
      refine gw_val (by kernel_rfl) (some 8) rfl (.slice (some ⟨b, off, none⟩) n c) (by kernel_rfl) ?_
      simp only [pu1, pu2, pu3, pu4]
      refine gw_val (by kernel_rfl) (some 9) rfl (.int .i64 n) (by kernel_rfl) ?_
      simp only [pu1, pu2, pu3, pu4]
      refine gw_val (by kernel_rfl) (some 10) rfl (.bool true) (gtr_n rfl (n) (0) (decide_eq_true (by omega)) (by kernel_rfl) (by kernel_rfl) _) ?_
      simp only [pu1, pu2, pu3, pu4]
      refine gw_val (by kernel_rfl) (some 11) rfl (.bool true) (by kernel_rfl) ?_
      simp only [pu1, pu2, pu3, pu4]
      refine gw_val (by kernel_rfl) (some 12) rfl (.slice (some ⟨b, off, none⟩) n c) (by kernel_rfl) ?_
      simp only [pu1, pu2, pu3, pu4]
      refine gw_val (by kernel_rfl) (some 13) rfl (.pointer (some ⟨b, off + 0 * 4, none⟩)) (idx_fd b off n c 0 hn0 _ _ _ rfl (by kernel_rfl) (by kernel_rfl)) ?_
      simp only [pu1, pu2, pu3, pu4]
      refine gw_val (by kernel_rfl) (some 14) rfl (.pointer (some ⟨b, off + 0 * 4, none⟩)) (by kernel_rfl) ?_
      simp only [pu1, pu2, pu3, pu4]
      refine gw_load (by kernel_rfl) (some 15) rfl 3 (.tmp 14) rfl ⟨b, off + 0 * 4, none⟩ (.int .i64 x.num) (by kernel_rfl) (load_cell hnum (by kernel_rfl)) ?_
      simp only [pu1, pu2, pu3, pu4]
      refine gw_val (by kernel_rfl) (some 16) rfl (.int .i64 k) (by kernel_rfl) ?_
      simp only [pu1, pu2, pu3, pu4]
      refine gw_val (by kernel_rfl) (some 17) rfl (.bool true) (eql_n rfl (x.num) (k) (decide_eq_true (hcs.1)) (by kernel_rfl) (by kernel_rfl) _) ?_
      simp only [pu1, pu2, pu3, pu4]
      refine gw_val (by kernel_rfl) (some 18) rfl (.bool true) (by kernel_rfl) ?_
      simp only [pu1, pu2, pu3, pu4]
      apply wpList_nil
      have CVW : Calls Try.prog 62 #[.agg (fdA x ba bc)] w fun e w' => e = .returned (.iface 26 (.int .u64 x.val)) ∧ Below w.heap.size w w' := (CV w).mono fun e w' q => ⟨by rw [q.1, valV, if_pos (by omega)], q.2⟩
      clear CV
      go_upto_region 2 with fail
      apply wp_region_lit
      refine gw_val (by kernel_rfl) (some 20) rfl (.slice (some ⟨b, off, none⟩) n c) (by kernel_rfl) ?_
      simp only [pu1, pu2, pu3, pu4]
      refine gw_val (by kernel_rfl) (some 21) rfl (.pointer (some ⟨b, off + 0 * 4, none⟩)) (idx_fd b off n c 0 hn0 _ _ _ rfl (by kernel_rfl) (by kernel_rfl)) ?_
      simp only [pu1, pu2, pu3, pu4]
      refine gw_load (by kernel_rfl) (some 22) rfl 54 (.tmp 21) rfl ⟨b, off + 0 * 4, none⟩ (.agg (fdA x ba bc)) (by kernel_rfl) (hld) ?_
      simp only [pu1, pu2, pu3, pu4]
      refine gw_call (by kernel_rfl) (some 23) rfl 62 #[.agg (fdA x ba bc)] (.iface 26 (.int .u64 x.val)) (fun w' => Below w.heap.size w w') (by kernel_rfl) CVW (fun V hV => ?_)
      simp only [pu1, pu2, pu3, pu4]
      refine gw_val (by kernel_rfl) (some 24) rfl (.tuple #[.slice none 0 0, .bool false]) (by kernel_rfl) ?_
      simp only [pu1, pu2, pu3, pu4]
      refine gw_val (by kernel_rfl) (some 19) rfl (.tuple #[.slice none 0 0, .bool false]) (by kernel_rfl) ?_
      simp only [pu1, pu2, pu3, pu4]
      refine gw_val (by kernel_rfl) (some 25) rfl (.slice none 0 0) (by kernel_rfl) ?_
      simp only [pu1, pu2, pu3, pu4]
      refine gw_val (by kernel_rfl) (some 26) rfl (.bool false) (by kernel_rfl) ?_
      simp only [pu1, pu2, pu3, pu4]
      refine gw_val (by kernel_rfl) (some 6) rfl (.slice none 0 0) (by kernel_rfl) ?_
      simp only [pu1, pu2, pu3, pu4]
      refine gw_val (by kernel_rfl) (some 7) rfl (.bool false) (by kernel_rfl) ?_
      simp only [pu1, pu2, pu3, pu4]
      apply wpList_nil
      have HVB := Lib.hid hV
      have hsV := sl_below hsl hV
      clear CVW hV
      go_upto_region 3 with fail
      apply wp_region_lit
      refine gw_val (by kernel_rfl) (some 27) rfl (.bool false) (by kernel_rfl) ?_
      simp only [pu1, pu2, pu3, pu4]
      refine gw_val (by kernel_rfl) (some 28) rfl (.bool false) (by kernel_rfl) ?_
      simp only [pu1, pu2, pu3, pu4]
      with_reducible refine gw_not (by kernel_rfl) (some 29) rfl ?_
      simp only [pu1, pu2, pu3, pu4]
      with_reducible refine gw_not (by kernel_rfl) (some 30) rfl ?_
      simp only [pu1, pu2, pu3, pu4]
      with_reducible refine gw_not (by kernel_rfl) (some 31) rfl ?_
      simp only [pu1, pu2, pu3, pu4]
      refine gw_val (by kernel_rfl) (some 32) rfl (.bool false) (by kernel_rfl) ?_
      simp only [pu1, pu2, pu3, pu4]
      apply wpList_nil
      have HE := Lib.hid (HNB.out V HVB.out)
      clear HNB
      go_upto_region 5 with fail
      apply wp_region_lit
      refine gw_val (by kernel_rfl) (some 37) rfl (.slice (some ⟨b, off, none⟩) n c) (by kernel_rfl) ?_
      simp only [pu1, pu2, pu3, pu4]
      refine gw_val (by kernel_rfl) (some 4) rfl (.string ⟨#[]⟩) (by kernel_rfl) ?_
      simp only [pu1, pu2, pu3, pu4]
      refine gw_val (by kernel_rfl) (some 5) rfl (.slice (some ⟨b, off, none⟩) n c) (by kernel_rfl) ?_
      simp only [pu1, pu2, pu3, pu4]
      apply wpList_nil
      go_wp2_with fail
      go_ret2
      exact HE.out
    · skip
      have hE : takT k (x :: R) = (strOfNums x.bytes, R) := takT_yes ⟨hcs.1, hcs.2.1, by omega⟩
      have HTL : Hid (∀ w', Below w.heap.size w w' → TakO w B (.string (takT k (x :: R)).1) ((x, v) :: r) (takT k (x :: R)).2 (.returned (.tuple #[.string (strOfNums x.bytes), .slice (fromS 4 (some ⟨b, off, none⟩) c 1) (n - 1) (c - 1)])) w') := Lib.hid (by rw [hE]; exact hTL.out)
      clear hNB hTL hE
      go_enter Try.func52, Try.ntmps52
      go_upto_region 1 with fail
      apply wp_region_lit
      refine gw_val (by kernel_rfl) (some 8) rfl (.slice (some ⟨b, off, none⟩) n c) (by kernel_rfl) ?_
      simp only [pu1, pu2, pu3, pu4]
      refine gw_val (by kernel_rfl) (some 9) rfl (.int .i64 n) (by kernel_rfl) ?_
      simp only [pu1, pu2, pu3, pu4]
      refine gw_val (by kernel_rfl) (some 10) rfl (.bool true) (gtr_n rfl (n) (0) (decide_eq_true (by omega)) (by kernel_rfl) (by kernel_rfl) _) ?_
      simp only [pu1, pu2, pu3, pu4]
      refine gw_val (by kernel_rfl) (some 11) rfl (.bool true) (by kernel_rfl) ?_
      simp only [pu1, pu2, pu3, pu4]
      refine gw_val (by kernel_rfl) (some 12) rfl (.slice (some ⟨b, off, none⟩) n c) (by kernel_rfl) ?_
      simp only [pu1, pu2, pu3, pu4]
      refine gw_val (by kernel_rfl) (some 13) rfl (.pointer (some ⟨b, off + 0 * 4, none⟩)) (idx_fd b off n c 0 hn0 _ _ _ rfl (by kernel_rfl) (by kernel_rfl)) ?_
      simp only [pu1, pu2, pu3, pu4]
      refine gw_val (by kernel_rfl) (some 14) rfl (.pointer (some ⟨b, off + 0 * 4, none⟩)) (by kernel_rfl) ?_
      simp only [pu1, pu2, pu3, pu4]
      refine gw_load (by kernel_rfl) (some 15) rfl 3 (.tmp 14) rfl ⟨b, off + 0 * 4, none⟩ (.int .i64 x.num) (by kernel_rfl) (load_cell hnum (by kernel_rfl)) ?_
      simp only [pu1, pu2, pu3, pu4]
      refine gw_val (by kernel_rfl) (some 16) rfl (.int .i64 k) (by kernel_rfl) ?_
      simp only [pu1, pu2, pu3, pu4]
      refine gw_val (by kernel_rfl) (some 17) rfl (.bool true) (eql_n rfl (x.num) (k) (decide_eq_true (hcs.1)) (by kernel_rfl) (by kernel_rfl) _) ?_
      simp only [pu1, pu2, pu3, pu4]
      refine gw_val (by kernel_rfl) (some 18) rfl (.bool true) (by kernel_rfl) ?_
      simp only [pu1, pu2, pu3, pu4]
      apply wpList_nil
      have CVW : Calls Try.prog 62 #[.agg (fdA x ba bc)] w fun e w' => e = .returned (.iface 39 (.slice ba x.bytes.length bc)) ∧ Below w.heap.size w w' := (CV w).mono fun e w' q => ⟨by rw [q.1, valV, if_neg (by omega)], q.2⟩
      clear CV
      go_upto_region 2 with fail
      apply wp_region_lit
      refine gw_val (by kernel_rfl) (some 20) rfl (.slice (some ⟨b, off, none⟩) n c) (by kernel_rfl) ?_
      simp only [pu1, pu2, pu3, pu4]
      refine gw_val (by kernel_rfl) (some 21) rfl (.pointer (some ⟨b, off + 0 * 4, none⟩)) (idx_fd b off n c 0 hn0 _ _ _ rfl (by kernel_rfl) (by kernel_rfl)) ?_
      simp only [pu1, pu2, pu3, pu4]
      refine gw_load (by kernel_rfl) (some 22) rfl 54 (.tmp 21) rfl ⟨b, off + 0 * 4, none⟩ (.agg (fdA x ba bc)) (by kernel_rfl) (hld) ?_
      simp only [pu1, pu2, pu3, pu4]
      refine gw_call (by kernel_rfl) (some 23) rfl 62 #[.agg (fdA x ba bc)] (.iface 39 (.slice ba x.bytes.length bc)) (fun w' => Below w.heap.size w w') (by kernel_rfl) CVW (fun V hV => ?_)
      simp only [pu1, pu2, pu3, pu4]
      refine gw_val (by kernel_rfl) (some 24) rfl (.tuple #[.slice ba x.bytes.length bc, .bool true]) (by kernel_rfl) ?_
      simp only [pu1, pu2, pu3, pu4]
      refine gw_val (by kernel_rfl) (some 19) rfl (.tuple #[.slice ba x.bytes.length bc, .bool true]) (by kernel_rfl) ?_
      simp only [pu1, pu2, pu3, pu4]
      refine gw_val (by kernel_rfl) (some 25) rfl (.slice ba x.bytes.length bc) (by kernel_rfl) ?_
      simp only [pu1, pu2, pu3, pu4]
      refine gw_val (by kernel_rfl) (some 26) rfl (.bool true) (by kernel_rfl) ?_
      simp only [pu1, pu2, pu3, pu4]
      refine gw_val (by kernel_rfl) (some 6) rfl (.slice ba x.bytes.length bc) (by kernel_rfl) ?_
      simp only [pu1, pu2, pu3, pu4]
      refine gw_val (by kernel_rfl) (some 7) rfl (.bool true) (by kernel_rfl) ?_
      simp only [pu1, pu2, pu3, pu4]
      apply wpList_nil
      have HVB := Lib.hid hV
      have hsV := sl_below hsl hV
      clear CVW hV
      go_upto_region 3 with fail
      apply wp_region_lit
      refine gw_val (by kernel_rfl) (some 27) rfl (.bool true) (by kernel_rfl) ?_
      simp only [pu1, pu2, pu3, pu4]
      refine gw_val (by kernel_rfl) (some 28) rfl (.bool true) (by kernel_rfl) ?_
      simp only [pu1, pu2, pu3, pu4]
      refine gw_val (by kernel_rfl) (some 29) rfl (.slice ba x.bytes.length bc) (by kernel_rfl) ?_
      simp only [pu1, pu2, pu3, pu4]
      refine gw_val (by kernel_rfl) (some 30) rfl (.int .i64 x.bytes.length) (by kernel_rfl) ?_
      simp only [pu1, pu2, pu3, pu4]
      refine gw_val (by kernel_rfl) (some 31) rfl (.bool true) (gtr_n rfl (x.bytes.length) (0) (decide_eq_true (by omega)) (by kernel_rfl) (by kernel_rfl) _) ?_
      simp only [pu1, pu2, pu3, pu4]
      refine gw_val (by kernel_rfl) (some 32) rfl (.bool true) (by kernel_rfl) ?_
      simp only [pu1, pu2, pu3, pu4]
      apply wpList_nil
      have HE := Lib.hid (HTL.out V.drew HVB.out.drew)
      clear HTL hcs
      go_upto_region 4 with fail
      refine wp_region_class (C := fun U => U = V.drew) (by kernel_rfl) (by kernel_rfl) (rfl) ?_
      refine gq_val (by kernel_rfl) (some 33) rfl (.slice ba x.bytes.length bc) (fun U hU => by kernel_rfl) ?_
      simp only [pu1, pu2, pu3, pu4]
      refine gq_val (by kernel_rfl) (some 34) rfl (.string (strOfNums x.bytes)) (fun U hU => by rw [hU]; exact ex_str rfl (hsV.drewS) (by kernel_rfl)) ?_
      simp only [pu1, pu2, pu3, pu4]
      refine gq_val (by kernel_rfl) (some 35) rfl (.slice (some ⟨b, off, none⟩) n c) (fun U hU => by kernel_rfl) ?_
      simp only [pu1, pu2, pu3, pu4]
      refine gq_val (by kernel_rfl) (some 36) rfl (.slice (fromS 4 (some ⟨b, off, none⟩) c 1) (n - 1) (c - 1)) (fun U hU => by rw [hU]; exact ex_cut rfl (by kernel_rfl) (hcut V.drew) (by kernel_rfl)) ?_
      simp only [pu1, pu2, pu3, pu4]
      refine gq_val (by kernel_rfl) (some 4) rfl (.string (strOfNums x.bytes)) (fun U hU => by kernel_rfl) ?_
      simp only [pu1, pu2, pu3, pu4]
      refine gq_val (by kernel_rfl) (some 5) rfl (.slice (fromS 4 (some ⟨b, off, none⟩) c 1) (n - 1) (c - 1)) (fun U hU => by kernel_rfl) ?_
      simp only [pu1, pu2, pu3, pu4]
      apply wpQuiet_nil
      intro U hU
      subst hU
      go_wp2_with fail
      go_ret2
      exact HE.out
    · skip
      have hE : takT k (x :: R) = (mtS, x :: R) := takT_no (by intro q; omega)
      have HNB := Lib.hid (fun w' hb => hNB.out w' hb hE)
      clear hNB hTL hE
      go_enter Try.func52, Try.ntmps52
      go_upto_region 1 with fail
      apply wp_region_lit
      refine gw_val (by kernel_rfl) (some 8) rfl (.slice (some ⟨b, off, none⟩) n c) (by kernel_rfl) ?_
      simp only [pu1, pu2, pu3, pu4]
      refine gw_val (by kernel_rfl) (some 9) rfl (.int .i64 n) (by kernel_rfl) ?_
      simp only [pu1, pu2, pu3, pu4]
      refine gw_val (by kernel_rfl) (some 10) rfl (.bool true) (gtr_n rfl (n) (0) (decide_eq_true (by omega)) (by kernel_rfl) (by kernel_rfl) _) ?_
      simp only [pu1, pu2, pu3, pu4]
      refine gw_val (by kernel_rfl) (some 11) rfl (.bool true) (by kernel_rfl) ?_
      simp only [pu1, pu2, pu3, pu4]
      refine gw_val (by kernel_rfl) (some 12) rfl (.slice (some ⟨b, off, none⟩) n c) (by kernel_rfl) ?_
      simp only [pu1, pu2, pu3, pu4]
      refine gw_val (by kernel_rfl) (some 13) rfl (.pointer (some ⟨b, off + 0 * 4, none⟩)) (idx_fd b off n c 0 hn0 _ _ _ rfl (by kernel_rfl) (by kernel_rfl)) ?_
      simp only [pu1, pu2, pu3, pu4]
      refine gw_val (by kernel_rfl) (some 14) rfl (.pointer (some ⟨b, off + 0 * 4, none⟩)) (by kernel_rfl) ?_
      simp only [pu1, pu2, pu3, pu4]
      refine gw_load (by kernel_rfl) (some 15) rfl 3 (.tmp 14) rfl ⟨b, off + 0 * 4, none⟩ (.int .i64 x.num) (by kernel_rfl) (load_cell hnum (by kernel_rfl)) ?_
      simp only [pu1, pu2, pu3, pu4]
      refine gw_val (by kernel_rfl) (some 16) rfl (.int .i64 k) (by kernel_rfl) ?_
      simp only [pu1, pu2, pu3, pu4]
      refine gw_val (by kernel_rfl) (some 17) rfl (.bool true) (eql_n rfl (x.num) (k) (decide_eq_true (hcs.1)) (by kernel_rfl) (by kernel_rfl) _) ?_
      simp only [pu1, pu2, pu3, pu4]
      refine gw_val (by kernel_rfl) (some 18) rfl (.bool true) (by kernel_rfl) ?_
      simp only [pu1, pu2, pu3, pu4]
      apply wpList_nil
      have CVW : Calls Try.prog 62 #[.agg (fdA x ba bc)] w fun e w' => e = .returned (.iface 39 (.slice ba x.bytes.length bc)) ∧ Below w.heap.size w w' := (CV w).mono fun e w' q => ⟨by rw [q.1, valV, if_neg (by omega)], q.2⟩
      clear CV
      go_upto_region 2 with fail
      apply wp_region_lit
      refine gw_val (by kernel_rfl) (some 20) rfl (.slice (some ⟨b, off, none⟩) n c) (by kernel_rfl) ?_
      simp only [pu1, pu2, pu3, pu4]
      refine gw_val (by kernel_rfl) (some 21) rfl (.pointer (some ⟨b, off + 0 * 4, none⟩)) (idx_fd b off n c 0 hn0 _ _ _ rfl (by kernel_rfl) (by kernel_rfl)) ?_
      simp only [pu1, pu2, pu3, pu4]
      refine gw_load (by kernel_rfl) (some 22) rfl 54 (.tmp 21) rfl ⟨b, off + 0 * 4, none⟩ (.agg (fdA x ba bc)) (by kernel_rfl) (hld) ?_
      simp only [pu1, pu2, pu3, pu4]
      refine gw_call (by kernel_rfl) (some 23) rfl 62 #[.agg (fdA x ba bc)] (.iface 39 (.slice ba x.bytes.length bc)) (fun w' => Below w.heap.size w w') (by kernel_rfl) CVW (fun V hV => ?_)
      simp only [pu1, pu2, pu3, pu4]
      refine gw_val (by kernel_rfl) (some 24) rfl (.tuple #[.slice ba x.bytes.length bc, .bool true]) (by kernel_rfl) ?_
      simp only [pu1, pu2, pu3, pu4]
      refine gw_val (by kernel_rfl) (some 19) rfl (.tuple #[.slice ba x.bytes.length bc, .bool true]) (by kernel_rfl) ?_
      simp only [pu1, pu2, pu3, pu4]
      refine gw_val (by kernel_rfl) (some 25) rfl (.slice ba x.bytes.length bc) (by kernel_rfl) ?_
      simp only [pu1, pu2, pu3, pu4]
      refine gw_val (by kernel_rfl) (some 26) rfl (.bool true) (by kernel_rfl) ?_
      simp only [pu1, pu2, pu3, pu4]
      refine gw_val (by kernel_rfl) (some 6) rfl (.slice ba x.bytes.length bc) (by kernel_rfl) ?_
      simp only [pu1, pu2, pu3, pu4]
      refine gw_val (by kernel_rfl) (some 7) rfl (.bool true) (by kernel_rfl) ?_
      simp only [pu1, pu2, pu3, pu4]
      apply wpList_nil
      have HVB := Lib.hid hV
      have hsV := sl_below hsl hV
      clear CVW hV
      go_upto_region 3 with fail
      apply wp_region_lit
      refine gw_val (by kernel_rfl) (some 27) rfl (.bool true) (by kernel_rfl) ?_
      simp only [pu1, pu2, pu3, pu4]
      refine gw_val (by kernel_rfl) (some 28) rfl (.bool true) (by kernel_rfl) ?_
      simp only [pu1, pu2, pu3, pu4]
      refine gw_val (by kernel_rfl) (some 29) rfl (.slice ba x.bytes.length bc) (by kernel_rfl) ?_
      simp only [pu1, pu2, pu3, pu4]
      refine gw_val (by kernel_rfl) (some 30) rfl (.int .i64 x.bytes.length) (by kernel_rfl) ?_
      simp only [pu1, pu2, pu3, pu4]
      refine gw_val (by kernel_rfl) (some 31) rfl (.bool false) (gtr_n rfl (x.bytes.length) (0) (decide_eq_false (by omega)) (by kernel_rfl) (by kernel_rfl) _) ?_
      simp only [pu1, pu2, pu3, pu4]
      refine gw_val (by kernel_rfl) (some 32) rfl (.bool false) (by kernel_rfl) ?_
      simp only [pu1, pu2, pu3, pu4]
      apply wpList_nil
      have HE := Lib.hid (HNB.out V HVB.out)
      clear HNB
      go_upto_region 5 with fail
      apply wp_region_lit
      refine gw_val (by kernel_rfl) (some 37) rfl (.slice (some ⟨b, off, none⟩) n c) (by kernel_rfl) ?_
      simp only [pu1, pu2, pu3, pu4]
      refine gw_val (by kernel_rfl) (some 4) rfl (.string ⟨#[]⟩) (by kernel_rfl) ?_
      simp only [pu1, pu2, pu3, pu4]
      refine gw_val (by kernel_rfl) (some 5) rfl (.slice (some ⟨b, off, none⟩) n c) (by kernel_rfl) ?_
      simp only [pu1, pu2, pu3, pu4]
      apply wpList_nil
      go_wp2_with fail
      go_ret2
      exact HE.out
set_option maxRecDepth 100000 in
set_option maxHeartbeats 8000000 in
theorem q_takeNumber (a : Option Addr) (c : Nat) (ps : List (Fld × Value)) (B : Nat) (k : Int) (w : World) (hF : FsB w B a ps) (hc : ps.length ≤ c) (hv : ∀ f, f ∈ ps.map Prod.fst → Vf f) :
    Calls Try.prog 53 #[.slice a ps.length c, .int .i64 k] w (TakO w B (.int .u64 (takN k (ps.map Prod.fst)).1) ps (takN k (ps.map Prod.fst)).2) := by
  cases ps with
  | nil =>
    have HE := Lib.hid (⟨a, c, [], rfl, hF, hc, rfl, Below.refl _ _⟩ : TakO w B (.int .u64 0) [] [] (.returned (.tuple #[.int .u64 0, .slice a 0 c])) w)
    clear hF hv
    change Calls _ _ #[.slice a 0 c, .int .i64 k] _ (TakO w B (.int .u64 0) [] [])
    go_enter Try.func53, Try.ntmps53
    go_upto_region 1 with fail
    apply wp_region_lit
    refine gw_val (by kernel_rfl) (some 8) rfl (.slice a 0 c) (by kernel_rfl) ?_
    simp only [pu1, pu2, pu3, pu4]
    refine gw_val (by kernel_rfl) (some 9) rfl (.int .i64 0) (by kernel_rfl) ?_
    simp only [pu1, pu2, pu3, pu4]
    refine gw_val (by kernel_rfl) (some 10) rfl (.bool false) (gtr_n rfl (0) (0) (decide_eq_false (by decide)) (by kernel_rfl) (by kernel_rfl) _) ?_
    simp only [pu1, pu2, pu3, pu4]
    refine gw_val (by kernel_rfl) (some 11) rfl (.bool false) (by kernel_rfl) ?_
    simp only [pu1, pu2, pu3, pu4]
    with_reducible refine gw_not (by kernel_rfl) (some 12) rfl ?_
    simp only [pu1, pu2, pu3, pu4]
    with_reducible refine gw_not (by kernel_rfl) (some 13) rfl ?_
    simp only [pu1, pu2, pu3, pu4]
    with_reducible refine gw_not (by kernel_rfl) (some 14) rfl ?_
    simp only [pu1, pu2, pu3, pu4]
    with_reducible refine gw_not (by kernel_rfl) (some 15) rfl ?_
    simp only [pu1, pu2, pu3, pu4]
    with_reducible refine gw_not (by kernel_rfl) (some 16) rfl ?_
    simp only [pu1, pu2, pu3, pu4]
    with_reducible refine gw_not (by kernel_rfl) (some 17) rfl ?_
    simp only [pu1, pu2, pu3, pu4]
    refine gw_val (by kernel_rfl) (some 18) rfl (.bool false) (by kernel_rfl) ?_
    simp only [pu1, pu2, pu3, pu4]
    apply wpList_nil
    go_upto_region 5 with fail
    apply wp_region_lit
    refine gw_val (by kernel_rfl) (some 35) rfl (.slice a 0 c) (by kernel_rfl) ?_
    simp only [pu1, pu2, pu3, pu4]
    refine gw_val (by kernel_rfl) (some 4) rfl (.int .u64 0) (by kernel_rfl) ?_
    simp only [pu1, pu2, pu3, pu4]
    refine gw_val (by kernel_rfl) (some 5) rfl (.slice a 0 c) (by kernel_rfl) ?_
    simp only [pu1, pu2, pu3, pu4]
    apply wpList_nil
    go_wp2_with fail
    go_ret2
    exact HE.out
  | cons p r =>
    have hvp := hv p.1 (by simp)
    have hF0 := hF
    obtain ⟨b, off, ba, bc, rfl, hp2, hsl, hbox⟩ := hF.fs 0 p rfl
    obtain ⟨n, hn⟩ : ∃ n, (p :: r).length = n := ⟨_, rfl⟩
    have hn0 : 0 < n := by rw [← hn]; simp
    have hNB : Hid (∀ w', Below w.heap.size w w' → takN k ((p :: r).map Prod.fst) = (0, (p :: r).map Prod.fst) → TakO w B (.int .u64 (takN k ((p :: r).map Prod.fst)).1) (p :: r) (takN k ((p :: r).map Prod.fst)).2 (.returned (.tuple #[.int .u64 0, .slice (some ⟨b, off, none⟩) n c])) w') := Lib.hid fun w' hb e => ⟨_, c, p :: r, by rw [hn, e], hF0.below hb, hc, by rw [e], hb⟩
    have hTL : Hid (∀ w', Below w.heap.size w w' → TakO w B (.int .u64 p.1.val) (p :: r) (r.map Prod.fst) (.returned (.tuple #[.int .u64 p.1.val, .slice (fromS 4 (some ⟨b, off, none⟩) c 1) (n - 1) (c - 1)])) w') := Lib.hid fun w' hb => ⟨_, c - 1, r, by rw [← hn]; rfl, (hF0.below hb).tail c hc, by simp at hc; omega, rfl, hb⟩
    have hcut := fun V => cut_f_from1 (some ⟨b, off, none⟩) n c V hn0
    have CV := fun V => q_value p.1 ba bc V
    rw [List.map_cons] at hNB ⊢
    rw [hn]
    obtain ⟨x, v⟩ := p
    simp only at *
    have hkd : x.kind = 0 ∨ x.kind = 2 := by
      rcases hvp.1.2.2 with q | q
      · exact .inl q.1
      · exact .inr q.1
    have hld := load_fd (fd_range hbox)
    have hnum := hbox.1
    have hval := hvp.2.1
    generalize r.map Prod.fst = R at *
    clear hF hF0 hv hvp hbox hp2 hn hc
    rcases (show x.num ≠ k ∨ (x.num = k ∧ x.kind = 2) ∨ (x.num = k ∧ x.kind = 0 ∧ 0 < x.val) ∨ (x.num = k ∧ x.kind = 0 ∧ ¬ (0 < x.val)) by omega) with hcs | hcs | hcs | hcs
    · skip
      have hE : takN k (x :: R) = (0, x :: R) := takN_no (by intro q; omega)
      have HNB := Lib.hid (fun w' hb => hNB.out w' hb hE)
      clear hNB hTL hE
      go_enter Try.func53, Try.ntmps53
      go_upto_region 1 with fail
      apply wp_region_lit
      refine gw_val (by kernel_rfl) (some 8) rfl (.slice (some ⟨b, off, none⟩) n c) (by kernel_rfl) ?_
      simp only [pu1, pu2, pu3, pu4]
      refine gw_val (by kernel_rfl) (some 9) rfl (.int .i64 n) (by kernel_rfl) ?_
      simp only [pu1, pu2, pu3, pu4]
      refine gw_val (by kernel_rfl) (some 10) rfl (.bool true) (gtr_n rfl (n) (0) (decide_eq_true (by omega)) (by kernel_rfl) (by kernel_rfl) _) ?_
      simp only [pu1, pu2, pu3, pu4]
      refine gw_val (by kernel_rfl) (some 11) rfl (.bool true) (by kernel_rfl) ?_
      simp only [pu1, pu2, pu3, pu4]
      refine gw_val (by kernel_rfl) (some 12) rfl (.slice (some ⟨b, off, none⟩) n c) (by kernel_rfl) ?_
      simp only [pu1, pu2, pu3, pu4]
      refine gw_val (by kernel_rfl) (some 13) rfl (.pointer (some ⟨b, off + 0 * 4, none⟩)) (idx_fd b off n c 0 hn0 _ _ _ rfl (by kernel_rfl) (by kernel_rfl)) ?_
      simp only [pu1, pu2, pu3, pu4]
      refine gw_val (by kernel_rfl) (some 14) rfl (.pointer (some ⟨b, off + 0 * 4, none⟩)) (by kernel_rfl) ?_
      simp only [pu1, pu2, pu3, pu4]
      refine gw_load (by kernel_rfl) (some 15) rfl 3 (.tmp 14) rfl ⟨b, off + 0 * 4, none⟩ (.int .i64 x.num) (by kernel_rfl) (load_cell hnum (by kernel_rfl)) ?_
      simp only [pu1, pu2, pu3, pu4]
      refine gw_val (by kernel_rfl) (some 16) rfl (.int .i64 k) (by kernel_rfl) ?_
      simp only [pu1, pu2, pu3, pu4]
      refine gw_val (by kernel_rfl) (some 17) rfl (.bool false) (eql_n rfl (x.num) (k) (decide_eq_false (hcs)) (by kernel_rfl) (by kernel_rfl) _) ?_
      simp only [pu1, pu2, pu3, pu4]
      refine gw_val (by kernel_rfl) (some 18) rfl (.bool false) (by kernel_rfl) ?_
      simp only [pu1, pu2, pu3, pu4]
      apply wpList_nil
      have HE := Lib.hid (HNB.out w (Below.refl _ _))
      clear HNB
      go_upto_region 5 with fail
      apply wp_region_lit
      refine gw_val (by kernel_rfl) (some 35) rfl (.slice (some ⟨b, off, none⟩) n c) (by kernel_rfl) ?_
      simp only [pu1, pu2, pu3, pu4]
      refine gw_val (by kernel_rfl) (some 4) rfl (.int .u64 0) (by kernel_rfl) ?_
      simp only [pu1, pu2, pu3, pu4]
      refine gw_val (by kernel_rfl) (some 5) rfl (.slice (some ⟨b, off, none⟩) n c) (by kernel_rfl) ?_
      simp only [pu1, pu2, pu3, pu4]
      apply wpList_nil
      go_wp2_with fail
      go_ret2
      exact HE.out
    · skip
      have hE : takN k (x :: R) = (0, x :: R) := takN_no (by intro q; omega)
      have HNB := Lib.hid (fun w' hb => hNB.out w' hb hE)
      clear hNB hTL hE
      go_enter Try.func53, Try.ntmps53
      go_upto_region 1 with fail
      apply wp_region_lit
      refine gw_val (by kernel_rfl) (some 8) rfl (.slice (some ⟨b, off, none⟩) n c) (by kernel_rfl) ?_
      simp only [pu1, pu2, pu3, pu4]
      refine gw_val (by kernel_rfl) (some 9) rfl (.int .i64 n) (by kernel_rfl) ?_
      simp only [pu1, pu2, pu3, pu4]
      refine gw_val (by kernel_rfl) (some 10) rfl (.bool true) (gtr_n rfl (n) (0) (decide_eq_true (by omega)) (by kernel_rfl) (by kernel_rfl) _) ?_
      simp only [pu1, pu2, pu3, pu4]
      refine gw_val (by kernel_rfl) (some 11) rfl (.bool true) (by kernel_rfl) ?_
      simp only [pu1, pu2, pu3, pu4]
      refine gw_val (by kernel_rfl) (some 12) rfl (.slice (some ⟨b, off, none⟩) n c) (by kernel_rfl) ?_
      simp only [pu1, pu2, pu3, pu4]
      refine gw_val (by kernel_rfl) (some 13) rfl (.pointer (some ⟨b, off + 0 * 4, none⟩)) (idx_fd b off n c 0 hn0 _ _ _ rfl (by kernel_rfl) (by kernel_rfl)) ?_
      simp only [pu1, pu2, pu3, pu4]
      refine gw_val (by kernel_rfl) (some 14) rfl (.pointer (some ⟨b, off + 0 * 4, none⟩)) (by kernel_rfl) ?_
      simp only [pu1, pu2, pu3, pu4]
      refine gw_load (by kernel_rfl) (some 15) rfl 3 (.tmp 14) rfl ⟨b, off + 0 * 4, none⟩ (.int .i64 x.num) (by kernel_rfl) (load_cell hnum (by kernel_rfl)) ?_
      simp only [pu1, pu2, pu3, pu4]
      refine gw_val (by kernel_rfl) (some 16) rfl (.int .i64 k) (by kernel_rfl) ?_
      simp only [pu1, pu2, pu3, pu4]
      refine gw_val (by kernel_rfl) (some 17) rfl (.bool true) (eql_n rfl (x.num) (k) (decide_eq_true (hcs.1)) (by kernel_rfl) (by kernel_rfl) _) ?_
      simp only [pu1, pu2, pu3, pu4]
      refine gw_val (by kernel_rfl) (some 18) rfl (.bool true) (by kernel_rfl) ?_
      simp only [pu1, pu2, pu3, pu4]
      apply wpList_nil
      have CVW : Calls Try.prog 62 #[.agg (fdA x ba bc)] w fun e w' => e = .returned (.iface 39 (.slice ba x.bytes.length bc)) ∧ Below w.heap.size w w' := (CV w).mono fun e w' q => ⟨by rw [q.1, valV, if_neg (by omega)], q.2⟩
      clear CV
      go_upto_region 2 with fail
      apply wp_region_lit
      refine gw_val (by kernel_rfl) (some 20) rfl (.slice (some ⟨b, off, none⟩) n c) (by kernel_rfl) ?_
      simp only [pu1, pu2, pu3, pu4]
      refine gw_val (by kernel_rfl) (some 21) rfl (.pointer (some ⟨b, off + 0 * 4, none⟩)) (idx_fd b off n c 0 hn0 _ _ _ rfl (by kernel_rfl) (by kernel_rfl)) ?_
      simp only [pu1, pu2, pu3, pu4]
      refine gw_load (by kernel_rfl) (some 22) rfl 54 (.tmp 21) rfl ⟨b, off + 0 * 4, none⟩ (.agg (fdA x ba bc)) (by kernel_rfl) (hld) ?_
      simp only [pu1, pu2, pu3, pu4]
      refine gw_call (by kernel_rfl) (some 23) rfl 62 #[.agg (fdA x ba bc)] (.iface 39 (.slice ba x.bytes.length bc)) (fun w' => Below w.heap.size w w') (by kernel_rfl) CVW (fun V hV => ?_)
      simp only [pu1, pu2, pu3, pu4]
      refine gw_val (by kernel_rfl) (some 24) rfl (.tuple #[.int .u64 0, .bool false]) (by kernel_rfl) ?_
      simp only [pu1, pu2, pu3, pu4]
      refine gw_val (by kernel_rfl) (some 19) rfl (.tuple #[.int .u64 0, .bool false]) (by kernel_rfl) ?_
      simp only [pu1, pu2, pu3, pu4]
      refine gw_val (by kernel_rfl) (some 25) rfl (.int .u64 0) (by kernel_rfl) ?_
      simp only [pu1, pu2, pu3, pu4]
      refine gw_val (by kernel_rfl) (some 26) rfl (.bool false) (by kernel_rfl) ?_
      simp only [pu1, pu2, pu3, pu4]
      refine gw_val (by kernel_rfl) (some 6) rfl (.int .u64 0) (by kernel_rfl) ?_
      simp only [pu1, pu2, pu3, pu4]
      refine gw_val (by kernel_rfl) (some 7) rfl (.bool false) (by kernel_rfl) ?_
      simp only [pu1, pu2, pu3, pu4]
      apply wpList_nil
      have HVB := Lib.hid hV
      have hsV := sl_below hsl hV
      clear CVW hV
      go_upto_region 3 with fail
      apply wp_region_lit
      refine gw_val (by kernel_rfl) (some 27) rfl (.bool false) (by kernel_rfl) ?_
      simp only [pu1, pu2, pu3, pu4]
      refine gw_val (by kernel_rfl) (some 28) rfl (.bool false) (by kernel_rfl) ?_
      simp only [pu1, pu2, pu3, pu4]
      with_reducible refine gw_not (by kernel_rfl) (some 29) rfl ?_
      simp only [pu1, pu2, pu3, pu4]
      with_reducible refine gw_not (by kernel_rfl) (some 30) rfl ?_
      simp only [pu1, pu2, pu3, pu4]
      refine gw_val (by kernel_rfl) (some 31) rfl (.bool false) (by kernel_rfl) ?_
      simp only [pu1, pu2, pu3, pu4]
      apply wpList_nil
      have HE := Lib.hid (HNB.out V HVB.out)
      clear HNB
      go_upto_region 5 with fail
      apply wp_region_lit
      refine gw_val (by kernel_rfl) (some 35) rfl (.slice (some ⟨b, off, none⟩) n c) (by kernel_rfl) ?_
      simp only [pu1, pu2, pu3, pu4]
      refine gw_val (by kernel_rfl) (some 4) rfl (.int .u64 0) (by kernel_rfl) ?_
      simp only [pu1, pu2, pu3, pu4]
      refine gw_val (by kernel_rfl) (some 5) rfl (.slice (some ⟨b, off, none⟩) n c) (by kernel_rfl) ?_
      simp only [pu1, pu2, pu3, pu4]
      apply wpList_nil
      go_wp2_with fail
      go_ret2
      exact HE.out
    · skip
      have hE : takN k (x :: R) = (x.val, R) := takN_yes ⟨hcs.1, hcs.2.1, by omega⟩
      have HTL : Hid (∀ w', Below w.heap.size w w' → TakO w B (.int .u64 (takN k (x :: R)).1) ((x, v) :: r) (takN k (x :: R)).2 (.returned (.tuple #[.int .u64 x.val, .slice (fromS 4 (some ⟨b, off, none⟩) c 1) (n - 1) (c - 1)])) w') := Lib.hid (by rw [hE]; exact hTL.out)
      clear hNB hTL hE
      go_enter Try.func53, Try.ntmps53
      go_upto_region 1 with fail
      apply wp_region_lit
      refine gw_val (by kernel_rfl) (some 8) rfl (.slice (some ⟨b, off, none⟩) n c) (by kernel_rfl) ?_
      simp only [pu1, pu2, pu3, pu4]
      refine gw_val (by kernel_rfl) (some 9) rfl (.int .i64 n) (by kernel_rfl) ?_
      simp only [pu1, pu2, pu3, pu4]
      refine gw_val (by kernel_rfl) (some 10) rfl (.bool true) (gtr_n rfl (n) (0) (decide_eq_true (by omega)) (by kernel_rfl) (by kernel_rfl) _) ?_
      simp only [pu1, pu2, pu3, pu4]
      refine gw_val (by kernel_rfl) (some 11) rfl (.bool true) (by kernel_rfl) ?_
      simp only [pu1, pu2, pu3, pu4]
      refine gw_val (by kernel_rfl) (some 12) rfl (.slice (some ⟨b, off, none⟩) n c) (by kernel_rfl) ?_
      simp only [pu1, pu2, pu3, pu4]
      refine gw_val (by kernel_rfl) (some 13) rfl (.pointer (some ⟨b, off + 0 * 4, none⟩)) (idx_fd b off n c 0 hn0 _ _ _ rfl (by kernel_rfl) (by kernel_rfl)) ?_
      simp only [pu1, pu2, pu3, pu4]
      refine gw_val (by kernel_rfl) (some 14) rfl (.pointer (some ⟨b, off + 0 * 4, none⟩)) (by kernel_rfl) ?_
      simp only [pu1, pu2, pu3, pu4]
      refine gw_load (by kernel_rfl) (some 15) rfl 3 (.tmp 14) rfl ⟨b, off + 0 * 4, none⟩ (.int .i64 x.num) (by kernel_rfl) (load_cell hnum (by kernel_rfl)) ?_
      simp only [pu1, pu2, pu3, pu4]
      refine gw_val (by kernel_rfl) (some 16) rfl (.int .i64 k) (by kernel_rfl) ?_
      simp only [pu1, pu2, pu3, pu4]
      refine gw_val (by kernel_rfl) (some 17) rfl (.bool true) (eql_n rfl (x.num) (k) (decide_eq_true (hcs.1)) (by kernel_rfl) (by kernel_rfl) _) ?_
      simp only [pu1, pu2, pu3, pu4]
      refine gw_val (by kernel_rfl) (some 18) rfl (.bool true) (by kernel_rfl) ?_
      simp only [pu1, pu2, pu3, pu4]
      apply wpList_nil
      have CVW : Calls Try.prog 62 #[.agg (fdA x ba bc)] w fun e w' => e = .returned (.iface 26 (.int .u64 x.val)) ∧ Below w.heap.size w w' := (CV w).mono fun e w' q => ⟨by rw [q.1, valV, if_pos (by omega)], q.2⟩
      clear CV
      go_upto_region 2 with fail
      apply wp_region_lit
      refine gw_val (by kernel_rfl) (some 20) rfl (.slice (some ⟨b, off, none⟩) n c) (by kernel_rfl) ?_
      simp only [pu1, pu2, pu3, pu4]
      refine gw_val (by kernel_rfl) (some 21) rfl (.pointer (some ⟨b, off + 0 * 4, none⟩)) (idx_fd b off n c 0 hn0 _ _ _ rfl (by kernel_rfl) (by kernel_rfl)) ?_
      simp only [pu1, pu2, pu3, pu4]
      refine gw_load (by kernel_rfl) (some 22) rfl 54 (.tmp 21) rfl ⟨b, off + 0 * 4, none⟩ (.agg (fdA x ba bc)) (by kernel_rfl) (hld) ?_
      simp only [pu1, pu2, pu3, pu4]
      refine gw_call (by kernel_rfl) (some 23) rfl 62 #[.agg (fdA x ba bc)] (.iface 26 (.int .u64 x.val)) (fun w' => Below w.heap.size w w') (by kernel_rfl) CVW (fun V hV => ?_)
      simp only [pu1, pu2, pu3, pu4]
      refine gw_val (by kernel_rfl) (some 24) rfl (.tuple #[.int .u64 x.val, .bool true]) (by kernel_rfl) ?_
      simp only [pu1, pu2, pu3, pu4]
      refine gw_val (by kernel_rfl) (some 19) rfl (.tuple #[.int .u64 x.val, .bool true]) (by kernel_rfl) ?_
      simp only [pu1, pu2, pu3, pu4]
      refine gw_val (by kernel_rfl) (some 25) rfl (.int .u64 x.val) (by kernel_rfl) ?_
      simp only [pu1, pu2, pu3, pu4]
      refine gw_val (by kernel_rfl) (some 26) rfl (.bool true) (by kernel_rfl) ?_
      simp only [pu1, pu2, pu3, pu4]
      refine gw_val (by kernel_rfl) (some 6) rfl (.int .u64 x.val) (by kernel_rfl) ?_
      simp only [pu1, pu2, pu3, pu4]
      refine gw_val (by kernel_rfl) (some 7) rfl (.bool true) (by kernel_rfl) ?_
      simp only [pu1, pu2, pu3, pu4]
      apply wpList_nil
      have HVB := Lib.hid hV
      have hsV := sl_below hsl hV
      clear CVW hV
      go_upto_region 3 with fail
      apply wp_region_lit
      refine gw_val (by kernel_rfl) (some 27) rfl (.bool true) (by kernel_rfl) ?_
      simp only [pu1, pu2, pu3, pu4]
      refine gw_val (by kernel_rfl) (some 28) rfl (.bool true) (by kernel_rfl) ?_
      simp only [pu1, pu2, pu3, pu4]
      refine gw_val (by kernel_rfl) (some 29) rfl (.int .u64 x.val) (by kernel_rfl) ?_
      simp only [pu1, pu2, pu3, pu4]
      refine gw_val (by kernel_rfl) (some 30) rfl (.bool true) (gtr_u0 rfl (x.val) (0) (decide_eq_true (by omega)) (by kernel_rfl) (by kernel_rfl) _) ?_
      simp only [pu1, pu2, pu3, pu4]
      refine gw_val (by kernel_rfl) (some 31) rfl (.bool true) (by kernel_rfl) ?_
      simp only [pu1, pu2, pu3, pu4]
      apply wpList_nil
      have HE := Lib.hid (HTL.out V.drew HVB.out.drew)
      clear HTL hcs
      go_upto_region 4 with fail
      refine wp_region_class (C := fun U => U = V.drew) (by kernel_rfl) (by kernel_rfl) (rfl) ?_
      refine gq_val (by kernel_rfl) (some 32) rfl (.int .u64 x.val) (fun U hU => by kernel_rfl) ?_
      simp only [pu1, pu2, pu3, pu4]
      refine gq_val (by kernel_rfl) (some 33) rfl (.slice (some ⟨b, off, none⟩) n c) (fun U hU => by kernel_rfl) ?_
      simp only [pu1, pu2, pu3, pu4]
      refine gq_val (by kernel_rfl) (some 34) rfl (.slice (fromS 4 (some ⟨b, off, none⟩) c 1) (n - 1) (c - 1)) (fun U hU => by rw [hU]; exact ex_cut rfl (by kernel_rfl) (hcut V.drew) (by kernel_rfl)) ?_
      simp only [pu1, pu2, pu3, pu4]
      refine gq_val (by kernel_rfl) (some 4) rfl (.int .u64 x.val) (fun U hU => by kernel_rfl) ?_
      simp only [pu1, pu2, pu3, pu4]
      refine gq_val (by kernel_rfl) (some 5) rfl (.slice (fromS 4 (some ⟨b, off, none⟩) c 1) (n - 1) (c - 1)) (fun U hU => by kernel_rfl) ?_
      simp only [pu1, pu2, pu3, pu4]
      apply wpQuiet_nil
      intro U hU
      subst hU
      go_wp2_with fail
      go_ret2
      exact HE.out
    · skip
      have hE : takN k (x :: R) = (0, x :: R) := takN_no (by intro q; omega)
      have HNB := Lib.hid (fun w' hb => hNB.out w' hb hE)
      clear hNB hTL hE
      go_enter Try.func53, Try.ntmps53
      go_upto_region 1 with fail
      apply wp_region_lit
      refine gw_val (by kernel_rfl) (some 8) rfl (.slice (some ⟨b, off, none⟩) n c) (by kernel_rfl) ?_
      simp only [pu1, pu2, pu3, pu4]
      refine gw_val (by kernel_rfl) (some 9) rfl (.int .i64 n) (by kernel_rfl) ?_
      simp only [pu1, pu2, pu3, pu4]
      refine gw_val (by kernel_rfl) (some 10) rfl (.bool true) (gtr_n rfl (n) (0) (decide_eq_true (by omega)) (by kernel_rfl) (by kernel_rfl) _) ?_
      simp only [pu1, pu2, pu3, pu4]
      refine gw_val (by kernel_rfl) (some 11) rfl (.bool true) (by kernel_rfl) ?_
      simp only [pu1, pu2, pu3, pu4]
      refine gw_val (by kernel_rfl) (some 12) rfl (.slice (some ⟨b, off, none⟩) n c) (by kernel_rfl) ?_
      simp only [pu1, pu2, pu3, pu4]
      refine gw_val (by kernel_rfl) (some 13) rfl (.pointer (some ⟨b, off + 0 * 4, none⟩)) (idx_fd b off n c 0 hn0 _ _ _ rfl (by kernel_rfl) (by kernel_rfl)) ?_
      simp only [pu1, pu2, pu3, pu4]
      refine gw_val (by kernel_rfl) (some 14) rfl (.pointer (some ⟨b, off + 0 * 4, none⟩)) (by kernel_rfl) ?_
      simp only [pu1, pu2, pu3, pu4]
      refine gw_load (by kernel_rfl) (some 15) rfl 3 (.tmp 14) rfl ⟨b, off + 0 * 4, none⟩ (.int .i64 x.num) (by kernel_rfl) (load_cell hnum (by kernel_rfl)) ?_
      simp only [pu1, pu2, pu3, pu4]
      refine gw_val (by kernel_rfl) (some 16) rfl (.int .i64 k) (by kernel_rfl) ?_
      simp only [pu1, pu2, pu3, pu4]
      refine gw_val (by kernel_rfl) (some 17) rfl (.bool true) (eql_n rfl (x.num) (k) (decide_eq_true (hcs.1)) (by kernel_rfl) (by kernel_rfl) _) ?_
      simp only [pu1, pu2, pu3, pu4]
      refine gw_val (by kernel_rfl) (some 18) rfl (.bool true) (by kernel_rfl) ?_
      simp only [pu1, pu2, pu3, pu4]
      apply wpList_nil
      have CVW : Calls Try.prog 62 #[.agg (fdA x ba bc)] w fun e w' => e = .returned (.iface 26 (.int .u64 x.val)) ∧ Below w.heap.size w w' := (CV w).mono fun e w' q => ⟨by rw [q.1, valV, if_pos (by omega)], q.2⟩
      clear CV
      go_upto_region 2 with fail
      apply wp_region_lit
      refine gw_val (by kernel_rfl) (some 20) rfl (.slice (some ⟨b, off, none⟩) n c) (by kernel_rfl) ?_
      simp only [pu1, pu2, pu3, pu4]
      refine gw_val (by kernel_rfl) (some 21) rfl (.pointer (some ⟨b, off + 0 * 4, none⟩)) (idx_fd b off n c 0 hn0 _ _ _ rfl (by kernel_rfl) (by kernel_rfl)) ?_
      simp only [pu1, pu2, pu3, pu4]
      refine gw_load (by kernel_rfl) (some 22) rfl 54 (.tmp 21) rfl ⟨b, off + 0 * 4, none⟩ (.agg (fdA x ba bc)) (by kernel_rfl) (hld) ?_
      simp only [pu1, pu2, pu3, pu4]
      refine gw_call (by kernel_rfl) (some 23) rfl 62 #[.agg (fdA x ba bc)] (.iface 26 (.int .u64 x.val)) (fun w' => Below w.heap.size w w') (by kernel_rfl) CVW (fun V hV => ?_)
      simp only [pu1, pu2, pu3, pu4]
      refine gw_val (by kernel_rfl) (some 24) rfl (.tuple #[.int .u64 x.val, .bool true]) (by kernel_rfl) ?_
      simp only [pu1, pu2, pu3, pu4]
      refine gw_val (by kernel_rfl) (some 19) rfl (.tuple #[.int .u64 x.val, .bool true]) (by kernel_rfl) ?_
      simp only [pu1, pu2, pu3, pu4]
      refine gw_val (by kernel_rfl) (some 25) rfl (.int .u64 x.val) (by kernel_rfl) ?_
      simp only [pu1, pu2, pu3, pu4]
      refine gw_val (by kernel_rfl) (some 26) rfl (.bool true) (by kernel_rfl) ?_
      simp only [pu1, pu2, pu3, pu4]
      refine gw_val (by kernel_rfl) (some 6) rfl (.int .u64 x.val) (by kernel_rfl) ?_
      simp only [pu1, pu2, pu3, pu4]
      refine gw_val (by kernel_rfl) (some 7) rfl (.bool true) (by kernel_rfl) ?_
      simp only [pu1, pu2, pu3, pu4]
      apply wpList_nil
      have HVB := Lib.hid hV
      have hsV := sl_below hsl hV
      clear CVW hV
      go_upto_region 3 with fail
      apply wp_region_lit
      refine gw_val (by kernel_rfl) (some 27) rfl (.bool true) (by kernel_rfl) ?_
      simp only [pu1, pu2, pu3, pu4]
      refine gw_val (by kernel_rfl) (some 28) rfl (.bool true) (by kernel_rfl) ?_
      simp only [pu1, pu2, pu3, pu4]
      refine gw_val (by kernel_rfl) (some 29) rfl (.int .u64 x.val) (by kernel_rfl) ?_
      simp only [pu1, pu2, pu3, pu4]
      refine gw_val (by kernel_rfl) (some 30) rfl (.bool false) (gtr_u0 rfl (x.val) (0) (decide_eq_false (by omega)) (by kernel_rfl) (by kernel_rfl) _) ?_
      simp only [pu1, pu2, pu3, pu4]
      refine gw_val (by kernel_rfl) (some 31) rfl (.bool false) (by kernel_rfl) ?_
      simp only [pu1, pu2, pu3, pu4]
      apply wpList_nil
      have HE := Lib.hid (HNB.out V HVB.out)
      clear HNB
      go_upto_region 5 with fail
      apply wp_region_lit
      refine gw_val (by kernel_rfl) (some 35) rfl (.slice (some ⟨b, off, none⟩) n c) (by kernel_rfl) ?_
      simp only [pu1, pu2, pu3, pu4]
      refine gw_val (by kernel_rfl) (some 4) rfl (.int .u64 0) (by kernel_rfl) ?_
      simp only [pu1, pu2, pu3, pu4]
      refine gw_val (by kernel_rfl) (some 5) rfl (.slice (some ⟨b, off, none⟩) n c) (by kernel_rfl) ?_
      simp only [pu1, pu2, pu3, pu4]
      apply wpList_nil
      go_wp2_with fail
      go_ret2
      exact HE.out
end Go.Proofs.Ytaaeepanelmgnaa
