/-
  Rows of fields from a block on; the program's value, takeText, takeNumber: contracts. The program's readTransfer: contract.
-/
import Derived.Test.YtglglhcnofbagaaJ8
namespace Go.Proofs.Ytglglhcnofbagaa
attribute [local irreducible] wpList wpQuiet
open Go.RowKit
set_option linter.unusedSimpArgs false
set_option linter.unusedVariables false

/-- Fields in memory, all in blocks from B on. -/
structure FsB (w : World) (B : Nat) (a : Option Addr) (ps : List (Fld × Value)) : Prop where
 fs : Fs w a ps
 row : ∀ x, a = some x → ps ≠ [] → B ≤ x.block
 byt : ∀ p, p ∈ ps → ∀ x n c, p.2 = .slice (some x) n c → p.1.bytes ≠ [] → B ≤ x.block
 cap : ∀ p, p ∈ ps → ∀ x n c, p.2 = .slice x n c → n ≤ c
theorem FsB.below {w w' : World} {B : Nat} {a : Option Addr} {ps : List (Fld × Value)} (h : FsB w B a ps) (hb : Below w.heap.size w w') : FsB w' B a ps := ⟨h.fs.below hb, h.row, h.byt, h.cap⟩
theorem sl_but {w w' : World} {g : Nat} {a : Option Addr} {c : Nat} {L : List Int} (h : Sl w a c L) (hb : But g w w') (hn : L ≠ [] → ∀ x, a = some x → x.block ≠ g) : Sl w' a c L := by
 rcases h with h | ⟨x, rfl, hx⟩
 ·exact .inl h
 ·refine .inr ⟨x, rfl, fun k hk => ?_⟩
  obtain ⟨b, off, rfl, hc⟩ := hx k hk
  have hne : b ≠ g := hn (by intro e; rw [e] at hk; simp at hk) _ rfl
  exact ⟨b, off, rfl, (World.cell?_of_block (a := ⟨b, off + k, none⟩) (hb.2 b (World.block_lt_of_cell? w _ hc) hne)).trans hc⟩
theorem box_but {w w' : World} {g b o : Nat} {num kind val : Int} {s : Option Addr} {n d : Nat} (h : Box w b o num kind val s n d) (hb : But g w w') (hn : b ≠ g) : Box w' b o num kind val s n d := by
 obtain ⟨h0, h1, h2, h3⟩ := h
 have key : ∀ q v, w.cell? ⟨b, q, none⟩ = some v → w'.cell? ⟨b, q, none⟩ = some v := fun q v hq => (World.cell?_of_block (a := ⟨b, q, none⟩) (hb.2 b (World.block_lt_of_cell? w _ hq) hn)).trans hq
 exact ⟨key _ _ h0, key _ _ h1, key _ _ h2, key _ _ h3⟩
theorem FsB.but {w w' : World} {B g : Nat} {a : Option Addr} {ps : List (Fld × Value)} (h : FsB w B a ps) (hb : But g w w') (hg : g < B) : FsB w' B a ps := by
 refine ⟨fun i p hp => ?_, h.row, h.byt, h.cap⟩
 obtain ⟨b, off, ba, bc, rfl, h2, hs, hx⟩ := h.fs i p hp
 have hm := List.mem_of_getElem? hp
 have h1 := h.row _ rfl (by intro e; rw [e] at hm; cases hm)
 refine ⟨b, off, ba, bc, rfl, h2, sl_but hs hb (fun hne x hx => ?_), box_but hx hb (by have : B ≤ b := h1; omega)⟩
 subst hx
 have := h.byt p hm x _ _ h2 hne
 omega
theorem FsB.mono {w : World} {B B2 : Nat} {a : Option Addr} {ps : List (Fld × Value)} (h : FsB w B a ps) (hB : B2 ≤ B) : FsB w B2 a ps := ⟨h.fs, fun x hx hn => Nat.le_trans hB (h.row x hx hn), fun p hp x n c e hn => Nat.le_trans hB (h.byt p hp x n c e hn), h.cap⟩
theorem FsB.nil (w : World) (B : Nat) (a : Option Addr) : FsB w B a [] := ⟨fun i p h => by simp at h, fun x _ h => absurd rfl h, fun p h => (by cases h), fun p h => (by cases h)⟩
theorem FsB.tail {w : World} {B : Nat} {a : Option Addr} {p : Fld × Value} {r : List (Fld × Value)} (h : FsB w B a (p :: r)) (c : Nat) (hc : (p :: r).length ≤ c) : FsB w B (fromS 4 a c 1) r := by
 cases r with
 | nil => exact FsB.nil _ _ _
 | cons q r =>
  have hc1 : ¬ c = 1 := by simp at hc; omega
  obtain ⟨b, off, ba, bc, rfl, -⟩ := h.fs 0 p rfl
  have e : fromS 4 (some ⟨b, off, none⟩) c 1 = some ⟨b, off + 4, none⟩ := by
   unfold fromS
   rw [if_neg hc1]
   simp only [Option.map_some]
   rw [Addr.add_mid]
  rw [e]
  refine ⟨fun i p2 hp => ?_, fun x hx _ => ?_, fun p2 hp => h.byt p2 (by simp [hp]), fun p2 hp => h.cap p2 (by simp [hp])⟩
  ·obtain ⟨b2, off2, ba2, bc2, e2, h2, hs, hx⟩ := h.fs (i + 1) p2 (by simpa using hp)
   simp only [Option.some.injEq, Addr.mk.injEq, and_true] at e2
   obtain ⟨rfl, rfl⟩ := e2
   refine ⟨b, off + 4, ba2, bc2, rfl, h2, hs, ?_⟩
   rw [show off + 4 + i * 4 = off + (i + 1) * 4 by omega]
   exact hx
  ·cases hx
   exact h.row ⟨b, off, none⟩ rfl (by simp)
theorem RowB.fsb {w : World} {B : Nat} {v : Value} {ps : List (Fld × Value)} (h : RowB w B v ps) : ∃ a c, v = .slice a ps.length c ∧ ps.length ≤ c ∧ FsB w B a ps := by
 obtain ⟨a, c, rfl, hc, hf⟩ := h.fs
 refine ⟨a, c, rfl, hc, hf, fun x hx hn => ?_, fun p hp x n d e hn => ?_, fun p hp x n d e => ?_⟩
 ·have h0 : 0 < ps.length := List.length_pos_iff.2 hn
  obtain ⟨g, rfl, hg, -⟩ := own_at h.1 h0
  cases hx
  exact hg
 ·have ho := h.2 p hp
  rw [e] at ho
  obtain ⟨a2, c2, e2, -, -⟩ := ho.sl
  simp only [Value.slice.injEq] at e2
  have h0 : 0 < p.1.bytes.length := List.length_pos_iff.2 hn
  unfold Own at ho
  rw [e2.2.1] at ho
  obtain ⟨g, hx, hg, -⟩ := own_at ho h0
  cases hx
  exact hg
 ·have ho := h.2 p hp
  rw [e] at ho
  obtain ⟨a2, c2, e2, -, hle⟩ := ho.sl
  simp only [Value.slice.injEq] at e2
  omega
/-- What a field contains. -/
def valV (x : Fld) (b : Option Addr) (d : Nat) : Value := if x.kind = 0 then .iface 22 (.int .u64 x.val) else .iface 29 (.slice b x.bytes.length d)
set_option maxRecDepth 100000 in
set_option maxHeartbeats 8000000 in
theorem q_value (x : Fld) (b : Option Addr) (d : Nat) (w : World) : Calls Try.prog 85 #[.agg (fdA x b d)] w fun e w' => e = .returned (valV x b d) ∧ Below w.heap.size w w' := by
 have hb0 : Below w.heap.size w (w.alloc (.cells (fdA x b d) 66)) := (Below.refl _ w).alloc (Nat.le_refl _) _
 have hX0 : Bx (w.alloc (.cells (fdA x b d) 66)) w.heap.size (fdA x b d) 66 := heap_alloc_last w _
 have HB0 := Lib.hid hb0
 have HV1 : Hid (x.kind = 0 → valV x b d = .iface 22 (.int .u64 x.val)) := Lib.hid fun h => if_pos h
 have HV2 : Hid (x.kind ≠ 0 → valV x b d = .iface 29 (.slice b x.bytes.length d)) := Lib.hid fun h => if_neg h
 generalize valV x b d = vv at *
 go_enter Try.func85, Try.ntmps85
 go_upto_region 1 with fail
 change Code.wp _ _ _ _ (w.alloc (.cells (fdA x b d) 66))
 generalize w.alloc (.cells (fdA x b d) 66) = W at *
 obtain ⟨g0, hg0⟩ : ∃ g0, w.heap.size = g0 := ⟨_, rfl⟩
 rw [hg0] at hX0
 simp only [hg0]
 clear hb0 hg0
 by_cases hk : x.kind = 0
 ·skip
  have HE := Lib.hid (HV1.out hk)
  clear HV1 HV2
  refine wl <| gz1 (.pointer (some ⟨g0, 1, none⟩)) <| gzl rfl ⟨g0, 1, none⟩ (.int .i64 x.kind) (hX0.load (i := 1) rfl (by kernel_rfl)) <| gzb (eql_i0 rfl x.kind (decide_eq_true hk)) <| wn ?_
  simp only [pu]
  go_upto_region 2 with fail
  refine wl <| gz1 (.pointer (some ⟨g0, 2, none⟩)) <| gzl rfl ⟨g0, 2, none⟩ (.int .u64 x.val) (hX0.load (i := 2) rfl (by kernel_rfl)) <| gz2 (.iface 22 (.int .u64 x.val)) (.iface 22 (.int .u64 x.val)) <| wn ?_
  simp only [pu]
  go_wp2_with fail
  go_ret
  rw [HE.out]
  exact ⟨rfl, HB0.out⟩
 ·skip
  have HE := Lib.hid (HV2.out hk)
  clear HV1 HV2
  refine wl <| gz1 (.pointer (some ⟨g0, 1, none⟩)) <| gzl rfl ⟨g0, 1, none⟩ (.int .i64 x.kind) (hX0.load (i := 1) rfl (by kernel_rfl)) <| gzb (eql_i0 rfl x.kind (decide_eq_false hk)) <| wn ?_
  simp only [pu]
  go_upto_region 3 with fail
  refine wl <| gz1 (.pointer (some ⟨g0, 3, none⟩)) <| gzl rfl ⟨g0, 3, none⟩ (.slice b x.bytes.length d) (hX0.load (i := 3) rfl (by kernel_rfl)) <| gz2 (.iface 29 (.slice b x.bytes.length d)) (.iface 29 (.slice b x.bytes.length d)) <| wn ?_
  simp only [pu]
  go_wp2_with fail
  go_ret
  rw [HE.out]
  exact ⟨rfl, HB0.out⟩
/-- What is taken, and what is left. -/
def TakO (w : World) (B : Nat) (X : Value) (ps : List (Fld × Value)) (rest : List Fld) (e : Ending) (w' : World) : Prop := ∃ a c qs, e = .returned (.tuple #[X, .slice a qs.length c]) ∧ FsB w' B a qs ∧ qs.length ≤ c ∧ qs.map Prod.fst = rest ∧ Below w.heap.size w w'
theorem eql_n {ρ : Operand → Value} {o : Oper} {x y : Operand} (ho : o.op = .binOp .eql 3 x y 3) (a b : Int) {t : Bool} (ht : decide (a = b) = t) (hx : ρ x = .int .i64 a) (hy : ρ y = .int .i64 b) (w : World) : (execOp ρ o).run Try.prog w = .ok (.value (.bool t)) w := by
 have e : (a == b) = t := ht
 unfold execOp
 simp only [ho, hx, hy]
 go_simp
theorem neq_n {ρ : Operand → Value} {o : Oper} {x y : Operand} (ho : o.op = .binOp .neq 3 x y 3) (a b : Int) {t : Bool} (ht : decide (a = b) = t) (hx : ρ x = .int .i64 a) (hy : ρ y = .int .i64 b) (w : World) : (execOp ρ o).run Try.prog w = .ok (.value (.bool (!t))) w := by
 have e : (a != b) = !t := by rw [← ht]; rfl
 unfold execOp
 simp only [ho, hx, hy]
 go_simp
theorem gtr_u0 {ρ : Operand → Value} {o : Oper} {x y : Operand} (ho : o.op = .binOp .gtr 22 x y 22) (a b : Int) {t : Bool} (ht : decide (b < a) = t) (hx : ρ x = .int .u64 a) (hy : ρ y = .int .u64 b) (w : World) : (execOp ρ o).run Try.prog w = .ok (.value (.bool t)) w := by
 rw [← ht]
 unfold execOp
 simp only [ho, hx, hy]
 go_simp
theorem ex_str {ρ : Operand → Value} {o : Oper} {x : Operand} (ho : o.op = .convert 29 9 x) {w : World} {a : Option Addr} {c : Nat} {L : List Int} (h : Sl w a c L) (hx : ρ x = .slice a L.length c) : (execOp ρ o).run Try.prog w = .ok (.value (.string (strOfNums L))) w := by
 have h2 := conv_sl h
 unfold execOp
 simp only [ho, hx, Sem.run_bind, h2]
 rfl
set_option maxRecDepth 100000 in
theorem cut_f_from (a : Option Addr) (n c k : Nat) (w : World) (h : k ≤ n) : (Instr.slice 61 (.slice a n c) (some (.int .i64 (k : Int))) none none).run Try.prog w = .ok (.slice (fromS 4 a c k) (n - k) (c - k)) w :=
 cut_from (s := 4) (by kernel_rfl) (fun w => by kernel_rfl) a n c k w h
set_option maxRecDepth 100000 in
theorem cut_f_from1 (a : Option Addr) (n c : Nat) (w : World) (h : 0 < n) : (Instr.slice 61 (.slice a n c) (some (.int .i64 1)) none none).run Try.prog w = .ok (.slice (fromS 4 a c 1) (n - 1) (c - 1)) w := by
 have q := cut_f_from a n c 1 w h
 have e : ((1 : Nat) : Int) = 1 := rfl
 rwa [e] at q
set_option maxRecDepth 100000 in
theorem ex_cut {ρ : Operand → Value} {o : Oper} {x : Operand} {a : Option Addr} {n c : Nat} {V : World} {v : Value} (ho : o.op = .slice 61 x (some (.const (.int .i64 1))) none none) (hx : ρ x = .slice a n c) (h : (Instr.slice 61 (.slice a n c) (some (.int .i64 1)) none none).run Try.prog V = .ok v V) (hc : ρ (.const (.int .i64 1)) = .int .i64 1) : (execOp ρ o).run Try.prog V = .ok (.value v) V := by
 have h2 : (Instr.sliceAt 61 (.slice a n c) (some (.int .i64 1)) none none).run Try.prog V = .ok v V := h
 unfold execOp
 simp only [ho, hx, Option.map_some, Option.map_none, hc, Sem.run_bind, h2]
 rfl
theorem Sl.drewS {w : World} {a : Option Addr} {c : Nat} {L : List Int} (h : Sl w a c L) : Sl w.drew a c L := h
set_option maxRecDepth 100000 in
set_option maxHeartbeats 8000000 in
theorem q_takeText (a : Option Addr) (c : Nat) (ps : List (Fld × Value)) (B : Nat) (k : Int) (w : World) (hF : FsB w B a ps) (hc : ps.length ≤ c) (hv : ∀ f, f ∈ ps.map Prod.fst → Vf f) :
  Calls Try.prog 72 #[.slice a ps.length c, .int .i64 k] w (TakO w B (.string (takT k (ps.map Prod.fst)).1) ps (takT k (ps.map Prod.fst)).2) := by
 cases ps with
 | nil =>
  have HE := Lib.hid (⟨a, c, [], rfl, hF, hc, rfl, Below.refl _ _⟩ : TakO w B (.string ⟨#[]⟩) [] [] (.returned (.tuple #[.string ⟨#[]⟩, .slice a 0 c])) w)
  clear hF hv
  change Calls _ _ #[.slice a 0 c, .int .i64 k] _ (TakO w B (.string ⟨#[]⟩) [] [])
  go_enter Try.func72, Try.ntmps72
  go_upto_region 1 with fail
  refine wl <| gz2 (.slice a 0 c) (.int .i64 0) <| gzb (gtr_n rfl (0) (0) (decide_eq_false (by decide))) <| gz6 (.bool false) undef undef undef undef undef <| gz2 undef (.bool false) <| wn ?_
  simp only [pu]
  go_upto_region 5 with fail
  refine wl <| gz3 (.slice a 0 c) (.string ⟨#[]⟩) (.slice a 0 c) <| wn ?_
  simp only [pu]
  go_wp2_with fail
  go_ret2
  exact HE.out
 | cons p r =>
  have hvp := hv p.1 (by simp)
  have hF0 := hF
  obtain ⟨b, off, ba, bc, rfl, hp2, hsl, hbox⟩ := hF.fs 0 p rfl
  obtain ⟨n, hn⟩ : ∃ n, (p :: r).length = n := ⟨_, rfl⟩
  have hn0 : 0 < n := by rw [← hn]; simp
  have hNB : Hid (∀ w', Below w.heap.size w w' → takT k ((p :: r).map Prod.fst) = (mtS, (p :: r).map Prod.fst) → TakO w B (.string (takT k ((p :: r).map Prod.fst)).1) (p :: r) (takT k ((p :: r).map Prod.fst)).2 (.returned (.tuple #[.string ⟨#[]⟩, .slice (some ⟨b, off, none⟩) n c])) w') := Lib.hid fun w' hb e => ⟨_, c, p :: r, by rw [hn, e]; rfl, hF0.below hb, hc, by rw [e], hb⟩
  have hTL : Hid (∀ w', Below w.heap.size w w' → TakO w B (.string (strOfNums p.1.bytes)) (p :: r) (r.map Prod.fst) (.returned (.tuple #[.string (strOfNums p.1.bytes), .slice (fromS 4 (some ⟨b, off, none⟩) c 1) (n - 1) (c - 1)])) w') := Lib.hid fun w' hb => ⟨_, c - 1, r, by rw [← hn]; rfl, (hF0.below hb).tail c hc, by simp at hc; omega, rfl, hb⟩
  have hcut := fun V => cut_f_from1 (some ⟨b, off, none⟩) n c V hn0
  have CV := fun V => q_value p.1 ba bc V
  rw [List.map_cons] at hNB ⊢
  rw [hn]
  obtain ⟨x, v⟩ := p
  simp only at *
  have hkd : x.kind = 0 ∨ x.kind = 2 := by
   rcases hvp.1.2.2 with q | q
   ·exact .inl q.1
   ·exact .inr q.1
  have hld := load_fd (fd_range hbox)
  have hnum := hbox.1
  have hval := hvp.2.1
  generalize r.map Prod.fst = R at *
  clear hF hF0 hv hvp hbox hp2 hn hc
  rcases (show x.num ≠ k ∨ (x.num = k ∧ x.kind = 0) ∨ (x.num = k ∧ x.kind = 2 ∧ 0 < x.bytes.length) ∨ (x.num = k ∧ x.kind = 2 ∧ ¬ (0 < x.bytes.length)) by omega) with hcs | hcs | hcs | hcs
  ·skip
   have hE : takT k (x :: R) = (mtS, x :: R) := takT_no (by intro q; omega)
   have HNB := Lib.hid (fun w' hb => hNB.out w' hb hE)
   clear hNB hTL hE
   go_enter Try.func72, Try.ntmps72
   go_upto_region 1 with fail
   refine wl <| gz2 (.slice (some ⟨b, off, none⟩) n c) (.int .i64 n) <| gzb (gtr_n rfl (n) (0) dT) <| gz2 (.bool true) (.slice (some ⟨b, off, none⟩) n c) <|
    gzv (.pointer (some ⟨b, off + 0 * 4, none⟩)) (idx_fd b off n c 0 hn0 _ _ _ rfl (by kernel_rfl) (by kernel_rfl)) <| gz1 (.pointer (some ⟨b, off + 0 * 4, none⟩)) <| gzl rfl ⟨b, off + 0 * 4, none⟩ (.int .i64 x.num) (load_cell hnum (by kernel_rfl)) <| gz1 (.int .i64 k) <|
    gzb (eql_n rfl (x.num) (k) (decide_eq_false (hcs))) <| gz1 (.bool false) <| wn ?_
   simp only [pu]
   have HE := Lib.hid (HNB.out w (Below.refl _ _))
   clear HNB
   go_upto_region 5 with fail
   refine wl <| gz3 (.slice (some ⟨b, off, none⟩) n c) (.string ⟨#[]⟩) (.slice (some ⟨b, off, none⟩) n c) <| wn ?_
   simp only [pu]
   go_wp2_with fail
   go_ret2
   exact HE.out
  ·skip
   have hE : takT k (x :: R) = (mtS, x :: R) := takT_no (by intro q; omega)
   have HNB := Lib.hid (fun w' hb => hNB.out w' hb hE)
   clear hNB hTL hE
   go_enter Try.func72, Try.ntmps72
   go_upto_region 1 with fail
   refine wl <| gz2 (.slice (some ⟨b, off, none⟩) n c) (.int .i64 n) <| gzb (gtr_n rfl (n) (0) dT) <| gz2 (.bool true) (.slice (some ⟨b, off, none⟩) n c) <|
    gzv (.pointer (some ⟨b, off + 0 * 4, none⟩)) (idx_fd b off n c 0 hn0 _ _ _ rfl (by kernel_rfl) (by kernel_rfl)) <| gz1 (.pointer (some ⟨b, off + 0 * 4, none⟩)) <| gzl rfl ⟨b, off + 0 * 4, none⟩ (.int .i64 x.num) (load_cell hnum (by kernel_rfl)) <| gz1 (.int .i64 k) <|
    gzb (eql_n rfl (x.num) (k) (decide_eq_true (hcs.1))) <| gz1 (.bool true) <| wn ?_
   simp only [pu]
   have CVW : Calls Try.prog 85 #[.agg (fdA x ba bc)] w fun e w' => e = .returned (.iface 22 (.int .u64 x.val)) ∧ Below w.heap.size w w' := (CV w).mono fun e w' q => ⟨by rw [q.1, valV, if_pos (by omega)], q.2⟩
   clear CV
   go_upto_region 2 with fail
   refine wl <| gz1 (.slice (some ⟨b, off, none⟩) n c) <| gzv (.pointer (some ⟨b, off + 0 * 4, none⟩)) (idx_fd b off n c 0 hn0 _ _ _ rfl (by kernel_rfl) (by kernel_rfl)) <| gzl rfl ⟨b, off + 0 * 4, none⟩ (.agg (fdA x ba bc)) (hld) <|
    gzc (.iface 22 (.int .u64 x.val)) (fun w' => Below w.heap.size w w') CVW (fun V hV => ?_)
   simp only [pu]
   refine gz6 (.tuple #[.slice none 0 0, .bool false]) (.tuple #[.slice none 0 0, .bool false]) (.slice none 0 0) (.bool false) (.slice none 0 0) (.bool false) <| wn ?_
   simp only [pu]
   have HVB := Lib.hid hV
   have hsV := sl_below hsl hV
   clear CVW hV
   go_upto_region 3 with fail
   refine wl <| gz6 (.bool false) (.bool false) undef undef undef (.bool false) <| wn ?_
   simp only [pu]
   have HE := Lib.hid (HNB.out V HVB.out)
   clear HNB
   go_upto_region 5 with fail
   refine wl <| gz3 (.slice (some ⟨b, off, none⟩) n c) (.string ⟨#[]⟩) (.slice (some ⟨b, off, none⟩) n c) <| wn ?_
   simp only [pu]
   go_wp2_with fail
   go_ret2
   exact HE.out
  ·skip
   have hE : takT k (x :: R) = (strOfNums x.bytes, R) := takT_yes ⟨hcs.1, hcs.2.1, by omega⟩
   have HTL : Hid (∀ w', Below w.heap.size w w' → TakO w B (.string (takT k (x :: R)).1) ((x, v) :: r) (takT k (x :: R)).2 (.returned (.tuple #[.string (strOfNums x.bytes), .slice (fromS 4 (some ⟨b, off, none⟩) c 1) (n - 1) (c - 1)])) w') := Lib.hid (by rw [hE]; exact hTL.out)
   clear hNB hTL hE
   go_enter Try.func72, Try.ntmps72
   go_upto_region 1 with fail
   refine wl <| gz2 (.slice (some ⟨b, off, none⟩) n c) (.int .i64 n) <| gzb (gtr_n rfl (n) (0) dT) <| gz2 (.bool true) (.slice (some ⟨b, off, none⟩) n c) <|
    gzv (.pointer (some ⟨b, off + 0 * 4, none⟩)) (idx_fd b off n c 0 hn0 _ _ _ rfl (by kernel_rfl) (by kernel_rfl)) <| gz1 (.pointer (some ⟨b, off + 0 * 4, none⟩)) <| gzl rfl ⟨b, off + 0 * 4, none⟩ (.int .i64 x.num) (load_cell hnum (by kernel_rfl)) <| gz1 (.int .i64 k) <|
    gzb (eql_n rfl (x.num) (k) (decide_eq_true (hcs.1))) <| gz1 (.bool true) <| wn ?_
   simp only [pu]
   have CVW : Calls Try.prog 85 #[.agg (fdA x ba bc)] w fun e w' => e = .returned (.iface 29 (.slice ba x.bytes.length bc)) ∧ Below w.heap.size w w' := (CV w).mono fun e w' q => ⟨by rw [q.1, valV, if_neg (by omega)], q.2⟩
   clear CV
   go_upto_region 2 with fail
   refine wl <| gz1 (.slice (some ⟨b, off, none⟩) n c) <| gzv (.pointer (some ⟨b, off + 0 * 4, none⟩)) (idx_fd b off n c 0 hn0 _ _ _ rfl (by kernel_rfl) (by kernel_rfl)) <| gzl rfl ⟨b, off + 0 * 4, none⟩ (.agg (fdA x ba bc)) (hld) <|
    gzc (.iface 29 (.slice ba x.bytes.length bc)) (fun w' => Below w.heap.size w w') CVW (fun V hV => ?_)
   simp only [pu]
   refine gz6 (.tuple #[.slice ba x.bytes.length bc, .bool true]) (.tuple #[.slice ba x.bytes.length bc, .bool true]) (.slice ba x.bytes.length bc) (.bool true) (.slice ba x.bytes.length bc) (.bool true) <| wn ?_
   simp only [pu]
   have HVB := Lib.hid hV
   have hsV := sl_below hsl hV
   clear CVW hV
   go_upto_region 3 with fail
   refine wl <| gz4 (.bool true) (.bool true) (.slice ba x.bytes.length bc) (.int .i64 x.bytes.length) <| gzb (gtr_n rfl (x.bytes.length) (0) dT) <| gz1 (.bool true) <| wn ?_
   simp only [pu]
   have HE := Lib.hid (HTL.out V.drew HVB.out.drew)
   clear HTL hcs
   go_upto_region 4 with fail
   refine wp_region_class (C := fun U => U = V.drew) (by kernel_rfl) (by kernel_rfl) (rfl) ?_
   refine gy (.slice ba x.bytes.length bc) <| gyv (.string (strOfNums x.bytes)) (fun U hU => by rw [hU]; exact ex_str rfl (hsV.drewS) (by kernel_rfl)) <| gy (.slice (some ⟨b, off, none⟩) n c) <|
     gyv (.slice (fromS 4 (some ⟨b, off, none⟩) c 1) (n - 1) (c - 1)) (fun U hU => by rw [hU]; exact ex_cut rfl (by kernel_rfl) (hcut V.drew) (by kernel_rfl)) <| gy (.string (strOfNums x.bytes)) <| gy (.slice (fromS 4 (some ⟨b, off, none⟩) c 1) (n - 1) (c - 1)) ?_
   simp only [pu]
   apply wpQuiet_nil
   intro U hU
   subst hU
   go_wp2_with fail
   go_ret2
   exact HE.out
  ·skip
   have hE : takT k (x :: R) = (mtS, x :: R) := takT_no (by intro q; omega)
   have HNB := Lib.hid (fun w' hb => hNB.out w' hb hE)
   clear hNB hTL hE
   go_enter Try.func72, Try.ntmps72
   go_upto_region 1 with fail
   refine wl <| gz2 (.slice (some ⟨b, off, none⟩) n c) (.int .i64 n) <| gzb (gtr_n rfl (n) (0) dT) <| gz2 (.bool true) (.slice (some ⟨b, off, none⟩) n c) <|
    gzv (.pointer (some ⟨b, off + 0 * 4, none⟩)) (idx_fd b off n c 0 hn0 _ _ _ rfl (by kernel_rfl) (by kernel_rfl)) <| gz1 (.pointer (some ⟨b, off + 0 * 4, none⟩)) <| gzl rfl ⟨b, off + 0 * 4, none⟩ (.int .i64 x.num) (load_cell hnum (by kernel_rfl)) <| gz1 (.int .i64 k) <|
    gzb (eql_n rfl (x.num) (k) (decide_eq_true (hcs.1))) <| gz1 (.bool true) <| wn ?_
   simp only [pu]
   have CVW : Calls Try.prog 85 #[.agg (fdA x ba bc)] w fun e w' => e = .returned (.iface 29 (.slice ba x.bytes.length bc)) ∧ Below w.heap.size w w' := (CV w).mono fun e w' q => ⟨by rw [q.1, valV, if_neg (by omega)], q.2⟩
   clear CV
   go_upto_region 2 with fail
   refine wl <| gz1 (.slice (some ⟨b, off, none⟩) n c) <| gzv (.pointer (some ⟨b, off + 0 * 4, none⟩)) (idx_fd b off n c 0 hn0 _ _ _ rfl (by kernel_rfl) (by kernel_rfl)) <| gzl rfl ⟨b, off + 0 * 4, none⟩ (.agg (fdA x ba bc)) (hld) <|
    gzc (.iface 29 (.slice ba x.bytes.length bc)) (fun w' => Below w.heap.size w w') CVW (fun V hV => ?_)
   simp only [pu]
   refine gz6 (.tuple #[.slice ba x.bytes.length bc, .bool true]) (.tuple #[.slice ba x.bytes.length bc, .bool true]) (.slice ba x.bytes.length bc) (.bool true) (.slice ba x.bytes.length bc) (.bool true) <| wn ?_
   simp only [pu]
   have HVB := Lib.hid hV
   have hsV := sl_below hsl hV
   clear CVW hV
   go_upto_region 3 with fail
   refine wl <| gz4 (.bool true) (.bool true) (.slice ba x.bytes.length bc) (.int .i64 x.bytes.length) <| gzb (gtr_n rfl (x.bytes.length) (0) dF) <| gz1 (.bool false) <| wn ?_
   simp only [pu]
   have HE := Lib.hid (HNB.out V HVB.out)
   clear HNB
   go_upto_region 5 with fail
   refine wl <| gz3 (.slice (some ⟨b, off, none⟩) n c) (.string ⟨#[]⟩) (.slice (some ⟨b, off, none⟩) n c) <| wn ?_
   simp only [pu]
   go_wp2_with fail
   go_ret2
   exact HE.out
set_option maxRecDepth 100000 in
set_option maxHeartbeats 8000000 in
theorem q_takeNumber (a : Option Addr) (c : Nat) (ps : List (Fld × Value)) (B : Nat) (k : Int) (w : World) (hF : FsB w B a ps) (hc : ps.length ≤ c) (hv : ∀ f, f ∈ ps.map Prod.fst → Vf f) :
  Calls Try.prog 73 #[.slice a ps.length c, .int .i64 k] w (TakO w B (.int .u64 (takN k (ps.map Prod.fst)).1) ps (takN k (ps.map Prod.fst)).2) := by
 cases ps with
 | nil =>
  have HE := Lib.hid (⟨a, c, [], rfl, hF, hc, rfl, Below.refl _ _⟩ : TakO w B (.int .u64 0) [] [] (.returned (.tuple #[.int .u64 0, .slice a 0 c])) w)
  clear hF hv
  change Calls _ _ #[.slice a 0 c, .int .i64 k] _ (TakO w B (.int .u64 0) [] [])
  go_enter Try.func73, Try.ntmps73
  go_upto_region 1 with fail
  refine wl <| gz2 (.slice a 0 c) (.int .i64 0) <| gzb (gtr_n rfl (0) (0) (decide_eq_false (by decide))) <| gz6 (.bool false) undef undef undef undef undef <| gz2 undef (.bool false) <| wn ?_
  simp only [pu]
  go_upto_region 5 with fail
  refine wl <| gz3 (.slice a 0 c) (.int .u64 0) (.slice a 0 c) <| wn ?_
  simp only [pu]
  go_wp2_with fail
  go_ret2
  exact HE.out
 | cons p r =>
  have hvp := hv p.1 (by simp)
  have hF0 := hF
  obtain ⟨b, off, ba, bc, rfl, hp2, hsl, hbox⟩ := hF.fs 0 p rfl
  obtain ⟨n, hn⟩ : ∃ n, (p :: r).length = n := ⟨_, rfl⟩
  have hn0 : 0 < n := by rw [← hn]; simp
  have hNB : Hid (∀ w', Below w.heap.size w w' → takN k ((p :: r).map Prod.fst) = (0, (p :: r).map Prod.fst) → TakO w B (.int .u64 (takN k ((p :: r).map Prod.fst)).1) (p :: r) (takN k ((p :: r).map Prod.fst)).2 (.returned (.tuple #[.int .u64 0, .slice (some ⟨b, off, none⟩) n c])) w') := Lib.hid fun w' hb e => ⟨_, c, p :: r, by rw [hn, e], hF0.below hb, hc, by rw [e], hb⟩
  have hTL : Hid (∀ w', Below w.heap.size w w' → TakO w B (.int .u64 p.1.val) (p :: r) (r.map Prod.fst) (.returned (.tuple #[.int .u64 p.1.val, .slice (fromS 4 (some ⟨b, off, none⟩) c 1) (n - 1) (c - 1)])) w') := Lib.hid fun w' hb => ⟨_, c - 1, r, by rw [← hn]; rfl, (hF0.below hb).tail c hc, by simp at hc; omega, rfl, hb⟩
  have hcut := fun V => cut_f_from1 (some ⟨b, off, none⟩) n c V hn0
  have CV := fun V => q_value p.1 ba bc V
  rw [List.map_cons] at hNB ⊢
  rw [hn]
  obtain ⟨x, v⟩ := p
  simp only at *
  have hkd : x.kind = 0 ∨ x.kind = 2 := by
   rcases hvp.1.2.2 with q | q
   ·exact .inl q.1
   ·exact .inr q.1
  have hld := load_fd (fd_range hbox)
  have hnum := hbox.1
  have hval := hvp.2.1
  generalize r.map Prod.fst = R at *
  clear hF hF0 hv hvp hbox hp2 hn hc
  rcases (show x.num ≠ k ∨ (x.num = k ∧ x.kind = 2) ∨ (x.num = k ∧ x.kind = 0 ∧ 0 < x.val) ∨ (x.num = k ∧ x.kind = 0 ∧ ¬ (0 < x.val)) by omega) with hcs | hcs | hcs | hcs
  ·skip
   have hE : takN k (x :: R) = (0, x :: R) := takN_no (by intro q; omega)
   have HNB := Lib.hid (fun w' hb => hNB.out w' hb hE)
   clear hNB hTL hE
   go_enter Try.func73, Try.ntmps73
   go_upto_region 1 with fail
   refine wl <| gz2 (.slice (some ⟨b, off, none⟩) n c) (.int .i64 n) <| gzb (gtr_n rfl (n) (0) dT) <| gz2 (.bool true) (.slice (some ⟨b, off, none⟩) n c) <|
    gzv (.pointer (some ⟨b, off + 0 * 4, none⟩)) (idx_fd b off n c 0 hn0 _ _ _ rfl (by kernel_rfl) (by kernel_rfl)) <| gz1 (.pointer (some ⟨b, off + 0 * 4, none⟩)) <| gzl rfl ⟨b, off + 0 * 4, none⟩ (.int .i64 x.num) (load_cell hnum (by kernel_rfl)) <| gz1 (.int .i64 k) <|
    gzb (eql_n rfl (x.num) (k) (decide_eq_false (hcs))) <| gz1 (.bool false) <| wn ?_
   simp only [pu]
   have HE := Lib.hid (HNB.out w (Below.refl _ _))
   clear HNB
   go_upto_region 5 with fail
   refine wl <| gz3 (.slice (some ⟨b, off, none⟩) n c) (.int .u64 0) (.slice (some ⟨b, off, none⟩) n c) <| wn ?_
   simp only [pu]
   go_wp2_with fail
   go_ret2
   exact HE.out
  ·skip
   have hE : takN k (x :: R) = (0, x :: R) := takN_no (by intro q; omega)
   have HNB := Lib.hid (fun w' hb => hNB.out w' hb hE)
   clear hNB hTL hE
   go_enter Try.func73, Try.ntmps73
   go_upto_region 1 with fail
   refine wl <| gz2 (.slice (some ⟨b, off, none⟩) n c) (.int .i64 n) <| gzb (gtr_n rfl (n) (0) dT) <| gz2 (.bool true) (.slice (some ⟨b, off, none⟩) n c) <|
    gzv (.pointer (some ⟨b, off + 0 * 4, none⟩)) (idx_fd b off n c 0 hn0 _ _ _ rfl (by kernel_rfl) (by kernel_rfl)) <| gz1 (.pointer (some ⟨b, off + 0 * 4, none⟩)) <| gzl rfl ⟨b, off + 0 * 4, none⟩ (.int .i64 x.num) (load_cell hnum (by kernel_rfl)) <| gz1 (.int .i64 k) <|
    gzb (eql_n rfl (x.num) (k) (decide_eq_true (hcs.1))) <| gz1 (.bool true) <| wn ?_
   simp only [pu]
   have CVW : Calls Try.prog 85 #[.agg (fdA x ba bc)] w fun e w' => e = .returned (.iface 29 (.slice ba x.bytes.length bc)) ∧ Below w.heap.size w w' := (CV w).mono fun e w' q => ⟨by rw [q.1, valV, if_neg (by omega)], q.2⟩
   clear CV
   go_upto_region 2 with fail
   refine wl <| gz1 (.slice (some ⟨b, off, none⟩) n c) <| gzv (.pointer (some ⟨b, off + 0 * 4, none⟩)) (idx_fd b off n c 0 hn0 _ _ _ rfl (by kernel_rfl) (by kernel_rfl)) <| gzl rfl ⟨b, off + 0 * 4, none⟩ (.agg (fdA x ba bc)) (hld) <|
    gzc (.iface 29 (.slice ba x.bytes.length bc)) (fun w' => Below w.heap.size w w') CVW (fun V hV => ?_)
   simp only [pu]
   refine gz6 (.tuple #[.int .u64 0, .bool false]) (.tuple #[.int .u64 0, .bool false]) (.int .u64 0) (.bool false) (.int .u64 0) (.bool false) <| wn ?_
   simp only [pu]
   have HVB := Lib.hid hV
   have hsV := sl_below hsl hV
   clear CVW hV
   go_upto_region 3 with fail
   refine wl <| gz5 (.bool false) (.bool false) undef undef (.bool false) <| wn ?_
   simp only [pu]
   have HE := Lib.hid (HNB.out V HVB.out)
   clear HNB
   go_upto_region 5 with fail
   refine wl <| gz3 (.slice (some ⟨b, off, none⟩) n c) (.int .u64 0) (.slice (some ⟨b, off, none⟩) n c) <| wn ?_
   simp only [pu]
   go_wp2_with fail
   go_ret2
   exact HE.out
  ·skip
   have hE : takN k (x :: R) = (x.val, R) := takN_yes ⟨hcs.1, hcs.2.1, by omega⟩
   have HTL : Hid (∀ w', Below w.heap.size w w' → TakO w B (.int .u64 (takN k (x :: R)).1) ((x, v) :: r) (takN k (x :: R)).2 (.returned (.tuple #[.int .u64 x.val, .slice (fromS 4 (some ⟨b, off, none⟩) c 1) (n - 1) (c - 1)])) w') := Lib.hid (by rw [hE]; exact hTL.out)
   clear hNB hTL hE
   go_enter Try.func73, Try.ntmps73
   go_upto_region 1 with fail
   refine wl <| gz2 (.slice (some ⟨b, off, none⟩) n c) (.int .i64 n) <| gzb (gtr_n rfl (n) (0) dT) <| gz2 (.bool true) (.slice (some ⟨b, off, none⟩) n c) <|
    gzv (.pointer (some ⟨b, off + 0 * 4, none⟩)) (idx_fd b off n c 0 hn0 _ _ _ rfl (by kernel_rfl) (by kernel_rfl)) <| gz1 (.pointer (some ⟨b, off + 0 * 4, none⟩)) <| gzl rfl ⟨b, off + 0 * 4, none⟩ (.int .i64 x.num) (load_cell hnum (by kernel_rfl)) <| gz1 (.int .i64 k) <|
    gzb (eql_n rfl (x.num) (k) (decide_eq_true (hcs.1))) <| gz1 (.bool true) <| wn ?_
   simp only [pu]
   have CVW : Calls Try.prog 85 #[.agg (fdA x ba bc)] w fun e w' => e = .returned (.iface 22 (.int .u64 x.val)) ∧ Below w.heap.size w w' := (CV w).mono fun e w' q => ⟨by rw [q.1, valV, if_pos (by omega)], q.2⟩
   clear CV
   go_upto_region 2 with fail
   refine wl <| gz1 (.slice (some ⟨b, off, none⟩) n c) <| gzv (.pointer (some ⟨b, off + 0 * 4, none⟩)) (idx_fd b off n c 0 hn0 _ _ _ rfl (by kernel_rfl) (by kernel_rfl)) <| gzl rfl ⟨b, off + 0 * 4, none⟩ (.agg (fdA x ba bc)) (hld) <|
    gzc (.iface 22 (.int .u64 x.val)) (fun w' => Below w.heap.size w w') CVW (fun V hV => ?_)
   simp only [pu]
   refine gz6 (.tuple #[.int .u64 x.val, .bool true]) (.tuple #[.int .u64 x.val, .bool true]) (.int .u64 x.val) (.bool true) (.int .u64 x.val) (.bool true) <| wn ?_
   simp only [pu]
   have HVB := Lib.hid hV
   have hsV := sl_below hsl hV
   clear CVW hV
   go_upto_region 3 with fail
   refine wl <| gz3 (.bool true) (.bool true) (.int .u64 x.val) <| gzb (gtr_u0 rfl (x.val) (0) dT) <| gz1 (.bool true) <| wn ?_
   simp only [pu]
   have HE := Lib.hid (HTL.out V.drew HVB.out.drew)
   clear HTL hcs
   go_upto_region 4 with fail
   refine wp_region_class (C := fun U => U = V.drew) (by kernel_rfl) (by kernel_rfl) (rfl) ?_
   refine gy (.int .u64 x.val) <| gy (.slice (some ⟨b, off, none⟩) n c) <| gyv (.slice (fromS 4 (some ⟨b, off, none⟩) c 1) (n - 1) (c - 1)) (fun U hU => by rw [hU]; exact ex_cut rfl (by kernel_rfl) (hcut V.drew) (by kernel_rfl)) <| gy (.int .u64 x.val) <|
     gy (.slice (fromS 4 (some ⟨b, off, none⟩) c 1) (n - 1) (c - 1)) ?_
   simp only [pu]
   apply wpQuiet_nil
   intro U hU
   subst hU
   go_wp2_with fail
   go_ret2
   exact HE.out
  ·skip
   have hE : takN k (x :: R) = (0, x :: R) := takN_no (by intro q; omega)
   have HNB := Lib.hid (fun w' hb => hNB.out w' hb hE)
   clear hNB hTL hE
   go_enter Try.func73, Try.ntmps73
   go_upto_region 1 with fail
   refine wl <| gz2 (.slice (some ⟨b, off, none⟩) n c) (.int .i64 n) <| gzb (gtr_n rfl (n) (0) dT) <| gz2 (.bool true) (.slice (some ⟨b, off, none⟩) n c) <|
    gzv (.pointer (some ⟨b, off + 0 * 4, none⟩)) (idx_fd b off n c 0 hn0 _ _ _ rfl (by kernel_rfl) (by kernel_rfl)) <| gz1 (.pointer (some ⟨b, off + 0 * 4, none⟩)) <| gzl rfl ⟨b, off + 0 * 4, none⟩ (.int .i64 x.num) (load_cell hnum (by kernel_rfl)) <| gz1 (.int .i64 k) <|
    gzb (eql_n rfl (x.num) (k) (decide_eq_true (hcs.1))) <| gz1 (.bool true) <| wn ?_
   simp only [pu]
   have CVW : Calls Try.prog 85 #[.agg (fdA x ba bc)] w fun e w' => e = .returned (.iface 22 (.int .u64 x.val)) ∧ Below w.heap.size w w' := (CV w).mono fun e w' q => ⟨by rw [q.1, valV, if_pos (by omega)], q.2⟩
   clear CV
   go_upto_region 2 with fail
   refine wl <| gz1 (.slice (some ⟨b, off, none⟩) n c) <| gzv (.pointer (some ⟨b, off + 0 * 4, none⟩)) (idx_fd b off n c 0 hn0 _ _ _ rfl (by kernel_rfl) (by kernel_rfl)) <| gzl rfl ⟨b, off + 0 * 4, none⟩ (.agg (fdA x ba bc)) (hld) <|
    gzc (.iface 22 (.int .u64 x.val)) (fun w' => Below w.heap.size w w') CVW (fun V hV => ?_)
   simp only [pu]
   refine gz6 (.tuple #[.int .u64 x.val, .bool true]) (.tuple #[.int .u64 x.val, .bool true]) (.int .u64 x.val) (.bool true) (.int .u64 x.val) (.bool true) <| wn ?_
   simp only [pu]
   have HVB := Lib.hid hV
   have hsV := sl_below hsl hV
   clear CVW hV
   go_upto_region 3 with fail
   refine wl <| gz3 (.bool true) (.bool true) (.int .u64 x.val) <| gzb (gtr_u0 rfl (x.val) (0) dF) <| gz1 (.bool false) <| wn ?_
   simp only [pu]
   have HE := Lib.hid (HNB.out V HVB.out)
   clear HNB
   go_upto_region 5 with fail
   refine wl <| gz3 (.slice (some ⟨b, off, none⟩) n c) (.int .u64 0) (.slice (some ⟨b, off, none⟩) n c) <| wn ?_
   simp only [pu]
   go_wp2_with fail
   go_ret2
   exact HE.out
end Go.Proofs.Ytglglhcnofbagaa
namespace Go.Proofs.Ytglglhcnofbagaa
attribute [local irreducible] wpList wpQuiet
open Go.RowKit
set_option linter.unusedSimpArgs false
set_option linter.unusedVariables false

theorem results_c {fn : Func} {tmps : Array Value} {w : World} {p q g ty : Nat} {v u : Value} (hr : fn.results = #[.cell p ty, .tmp q]) (h2 : tmps.getD p undef = .pointer (some ⟨g, 0, none⟩)) (hl : (Instr.loadAt ty (.pointer (some ⟨g, 0, none⟩))).run Try.prog w = .ok v w) (h3 : tmps.getD q undef = u) : (results fn tmps).run Try.prog w = .ok (.tuple #[v, u]) w := by
 unfold results
 rw [hr]
 have h2' : tmps[p]?.getD undef = .pointer (some ⟨g, 0, none⟩) := by simpa using h2
 have h3' : tmps[q]?.getD undef = u := by simpa using h3
 have hl' := hl
 simp only [Instr.loadAt, Instr.sureAddr, Sem.run_bind, Sem.run_pure, Result.andThen_ok] at hl'
 simp [h2', h3', asAddr, hl', Result.andThen]
/-- A transfer that was read, or none. -/
def TfO (w : World) (r : Option Tf) (e : Ending) (w' : World) : Prop := ∃ y ok, e = .returned (.tuple #[.agg (tfA y), .bool ok]) ∧ r = (if ok = true then some y else none) ∧ Below w.heap.size w w'
theorem rdTf_none {f : Fld} (h : ¬ (f.kind = 2 ∧ f.num = 6 ∧ (flds f.bytes).2.2 = 0 ∧ (takN 2 (takT 1 (flds f.bytes).1).2).2.length = 0)) : rdTf f = none := if_neg h
theorem rdTf_some {f : Fld} (h : f.kind = 2 ∧ f.num = 6 ∧ (flds f.bytes).2.2 = 0 ∧ (takN 2 (takT 1 (flds f.bytes).1).2).2.length = 0) : rdTf f = some ((takT 1 (flds f.bytes).1).1, (takN 2 (takT 1 (flds f.bytes).1).2).1) := if_pos h
theorem st_cell {w w0 : World} {g B i ty T : Nat} {cs cs' : Array Value} {v : Value} (h : Bx w g cs T) (hb : Below B w0 w) (hg : B ≤ g) (hi : i < cs.size) (h1 : v.oneCell' = true) (hs : (Try.prog.info? ty).map (·.size) = some 1) (hc : cs.setIfInBounds i v = cs') :
  ∃ V, (Instr.storeAt ty (.pointer (some ⟨g, i, none⟩)) v).run Try.prog w = .ok () V ∧ Bx V g cs' T ∧ Below B w0 V ∧ But g w V :=
 ⟨_, run_store_cell h hi h1 hs, hc ▸ h.setC v, hb.setCell hg v, But.setCell _ _ _⟩
set_option maxRecDepth 100000 in
set_option maxHeartbeats 8000000 in
theorem q_readTransfer (x : Fld) (b : Option Addr) (d : Nat) (w : World) (hs : Sl w b d x.bytes) (hd : x.bytes.length ≤ d) (hl : x.bytes.length ≤ 1000000) (h8 : ∀ y, y ∈ x.bytes → W8 y) (hkd : x.kind = 0 ∨ x.kind = 2) :
  Calls Try.prog 74 #[.agg (fdA x b d)] w (TfO w (rdTf x)) := by
 have hb1 : Below w.heap.size w (w.alloc (.cells (fdA x b d) 66)) := (Below.refl _ w).alloc (Nat.le_refl _) _
 have hX1 : Bx (w.alloc (.cells (fdA x b d) 66)) w.heap.size (fdA x b d) 66 := heap_alloc_last w _
 have hsz1 : (w.alloc (.cells (fdA x b d) 66)).heap.size = w.heap.size + 1 := by simp
 have CV := fun V => q_value x b d V
 have HX := Lib.hid (@rdTf_none x)
 have HY := Lib.hid (@rdTf_some x)
 have CFL := Lib.hid (fun V (h : Sl V b d x.bytes) => code_fields b d x.bytes V hl h h8 hd)
 have HFV : Hid ((flds x.bytes).2.2 = 0 → ∀ f, f ∈ (flds x.bytes).1 → Vf f) := Lib.hid fun h => by
  rcases flds_ok (fun y hy => h8 y hy) hl with ⟨-, q⟩ | ⟨P, e, -, hP⟩
  ·exact absurd h q
  ·rw [e]; exact hP
 generalize flds x.bytes = FR at *
 have HTN : Hid (∀ V, Below w.heap.size w V → rdTf x = none → TfO w (rdTf x) (.returned (.tuple #[.agg (tfA zTf), .bool false])) V) := Lib.hid fun V hb e => ⟨zTf, false, rfl, by rw [e]; rfl, hb⟩
 have HTY : Hid (∀ V y, Below w.heap.size w V → rdTf x = some y → TfO w (rdTf x) (.returned (.tuple #[.agg (tfA y), .bool true])) V) := Lib.hid fun V y hb e => ⟨y, true, rfl, by rw [e]; rfl, hb⟩
 generalize rdTf x = RR at *
 go_enter Try.func74, Try.ntmps74
 go_upto_region 1 with fail
 change Code.wp _ _ _ _ ((w.alloc (.cells (fdA x b d) 66)).alloc (.cells (tfA zTf) 35))
 generalize w.alloc (.cells (fdA x b d) 66) = W1 at *
 have hb0 : Below w.heap.size w (W1.alloc (.cells (tfA zTf) 35)) := hb1.alloc hb1.size _
 have hX0 : Bx (W1.alloc (.cells (tfA zTf) 35)) w.heap.size (fdA x b d) 66 := hX1.below hX1.lt ((Below.refl _ W1).alloc (Nat.le_refl _) _)
 have hY0 : Bx (W1.alloc (.cells (tfA zTf) 35)) W1.heap.size (tfA zTf) 35 := heap_alloc_last W1 _
 rw [hsz1] at hY0
 generalize W1.alloc (.cells (tfA zTf) 35) = W at *
 obtain ⟨g0, hg0⟩ : ∃ g0, w.heap.size = g0 := ⟨_, rfl⟩
 obtain ⟨g2, hg2⟩ : ∃ g2, w.heap.size + 1 = g2 := ⟨_, rfl⟩
 have HB0 := Lib.hid hb0
 have HG2 : Hid (w.heap.size ≤ g2) := Lib.hid (by omega)
 rw [hg2] at hY0
 rw [hg0] at hX0
 rw [hg2, hg0]
 have hsW := sl_below hs hb0
 clear hb0 hb1 hX1 hsz1 hg0 hg2 hs
 rcases hkd with hk | hk
 ·skip
  have CVW : Calls Try.prog 85 #[.agg (fdA x b d)] W fun e w' => e = .returned (.iface 22 (.int .u64 x.val)) ∧ Below W.heap.size W w' := (CV W).mono fun e w' q => ⟨by rw [q.1, valV, if_pos hk], q.2⟩
  clear CV CFL HFV
  refine wl <| gzl rfl ⟨g0, 0, none⟩ (.agg (fdA x b d)) (load_fdb hX0) <| gzc (.iface 22 (.int .u64 x.val)) (fun w' => Below W.heap.size W w') CVW (fun V hV => ?_)
  simp only [pu]
  refine gz6 (.tuple #[.slice none 0 0, .bool false]) (.tuple #[.slice none 0 0, .bool false]) (.slice none 0 0) (.bool false) (.slice none 0 0) (.bool false) <| wn ?_
  simp only [pu]
  have hXV := hX0.below hX0.lt hV
  have hYV := hY0.below hY0.lt hV
  have hsV := sl_below hsW hV
  have HBV := Lib.hid (HB0.out.trans (hV.mono HB0.out.size))
  clear hV hX0 hY0 hsW HB0 CVW
  go_upto_region 2 with fail
  refine wl <| gz6 (.bool false) (.bool true) (.bool true) undef undef undef <| gz1 (.bool true) <| wn ?_
  simp only [pu]
  obtain ⟨hst, hZ⟩ := store_tf (y := zTf) hYV
  have HB9 := Lib.hid (belowRow HBV.out HG2.out (tfA zTf))
  have HE := Lib.hid (HTN.out _ HB9.out (HX.out (by rw [hk]; intro q; exact absurd q.1 (by decide))))
  generalize World.setRow _ g2 (tfA zTf) = V9 at *
  clear HTN HTY HX HY
  go_upto_region 3 with fail
  refine wl <| gz1 (.agg #[.string ⟨#[]⟩, .int .u64 0]) <| gzs rfl (hst) <| gz1 (.bool false) <| wn ?_
  simp only [pu]
  go_wp2_with fail
  exact bodyPost_ret (results_c (p := 2) (q := 3) rfl (by kernel_rfl) (load_tfb hZ) rfl) rfl HE.out
 ·skip
  have CVW : Calls Try.prog 85 #[.agg (fdA x b d)] W fun e w' => e = .returned (.iface 29 (.slice b x.bytes.length d)) ∧ Below W.heap.size W w' := (CV W).mono fun e w' q => ⟨by rw [q.1, valV, if_neg (by omega)], q.2⟩
  clear CV
  refine wl <| gzl rfl ⟨g0, 0, none⟩ (.agg (fdA x b d)) (load_fdb hX0) <| gzc (.iface 29 (.slice b x.bytes.length d)) (fun w' => Below W.heap.size W w') CVW (fun V hV => ?_)
  simp only [pu]
  refine gz6 (.tuple #[.slice b x.bytes.length d, .bool true]) (.tuple #[.slice b x.bytes.length d, .bool true]) (.slice b x.bytes.length d) (.bool true) (.slice b x.bytes.length d) (.bool true) <| wn ?_
  simp only [pu]
  have hXV := hX0.below hX0.lt hV
  have hYV := hY0.below hY0.lt hV
  have hsV := sl_below hsW hV
  have HBV := Lib.hid (HB0.out.trans (hV.mono HB0.out.size))
  clear hV hX0 hY0 hsW HB0 CVW
  go_upto_region 2 with fail
  by_cases hn : x.num = 6
  ·skip
   skip
   refine wl <| gz4 (.bool true) (.bool false) (.bool false) (.pointer (some ⟨g0, 0, none⟩)) <| gzl rfl ⟨g0, 0, none⟩ (.int .i64 x.num) (hXV.load (i := 0) rfl (by kernel_rfl)) <| gzb (neq_n rfl x.num 6 (decide_eq_true hn)) <|
    gz1 (.bool false) <| wn ?_
   simp only [pu]
   have CF := CFL.out V hsV
   clear CFL hsV hXV
   go_upto_region 4 with fail
   refine wl <| gz1 (.slice b x.bytes.length d) <|
    gze (fun v w' => ∃ a c ps, v = .tuple #[.slice a ps.length c, .int .i64 FR.2.1, .int .i64 FR.2.2] ∧ ps.map Prod.fst = FR.1 ∧ ps.length ≤ c ∧ FsB w' V.heap.size a ps ∧ Below V.heap.size V w') (CF.mono fun e w' q => by obtain ⟨v, ps, h1, h2, h3, h4⟩ := q; obtain ⟨a, c, rfl, hc, hf⟩ := h3.fsb; exact ⟨_, h1, a, c, ps, rfl, h2, hc, hf, h4⟩) (fun v5 V5 hq => ?_)
   obtain ⟨a5, c5, ps, rfl, hps, hc5, hF5, hb5⟩ := hq
   simp only [pu]
   refine gz6 (.tuple #[.slice a5 ps.length c5, .int .i64 FR.2.1, .int .i64 FR.2.2]) (.slice a5 ps.length c5) (.int .i64 FR.2.1) (.int .i64 FR.2.2) (.slice a5 ps.length c5) (.int .i64 FR.2.1) <| gz1 (.int .i64 FR.2.2) <| wn ?_
   simp only [pu]
   have hY5 := hYV.below hYV.lt hb5
   have HB5 := Lib.hid (HBV.out.trans (hb5.mono HBV.out.size))
   have HGV : Hid (g2 < V.heap.size) := Lib.hid hYV.lt
   obtain ⟨P, n5, e5⟩ := FR
   dsimp only at *
   clear hb5 hYV HBV CF
   go_upto_region 5 with fail
   by_cases he : e5 = 0
   ·skip
    have hvf := HFV.out he
    rw [← hps] at hvf HX HY
    clear HFV hps
    refine wl <| gz1 (.int .i64 e5) <| gzb (neq_e rfl e5 0 (decide_eq_true he)) <| wn ?_
    simp only [pu]
    have CT := q_takeText a5 c5 ps V.heap.size 1 V5 hF5 hc5 hvf
    have hv2 := takT_vf (k := 1) hvf
    generalize takT 1 (ps.map Prod.fst) = TT at *
    obtain ⟨s1, R1⟩ := TT
    dsimp only at *
    go_upto_region 7 with fail
    refine wl <| gz1 (.slice a5 ps.length c5) <|
     gze (fun v w' => ∃ a c qs, v = .tuple #[.string s1, .slice a qs.length c] ∧ FsB w' V.heap.size a qs ∧ qs.length ≤ c ∧ qs.map Prod.fst = R1 ∧ Below V5.heap.size V5 w') (CT.mono fun e w' q => by obtain ⟨a, c, qs, h1, h2⟩ := q; exact ⟨_, h1, a, c, qs, rfl, h2⟩) (fun v6 V6 hq => ?_)
    obtain ⟨a6, c6, q1, rfl, hF6, hc6, hq1, hb6⟩ := hq
    have hY6 := hY5.below hY5.lt hb6
    have HB6 := Lib.hid (HB5.out.trans (hb6.mono HB5.out.size))
    obtain ⟨V7, hst7, hY7, hB7, hbut7⟩ := st_cell (i := 0) (ty := 9) (v := .string s1) (cs' := tfA (s1, 0)) hY6 HB6.out HG2.out (by show 0 < 2; decide) rfl (by kernel_rfl) rfl
    have hF7 := hF6.but hbut7 HGV.out
    have HB7 := Lib.hid hB7
    clear CT hb6 hY5 HB5 hF5 hc5
    simp only [pu]
    refine gz4 (.tuple #[.string s1, .slice a6 q1.length c6]) (.string s1) (.slice a6 q1.length c6) (.pointer (some ⟨g2, 0, none⟩)) <| gzs rfl (hst7) <| gz1 (.slice a6 q1.length c6) <| wn ?_
    simp only [pu]
    rw [← hq1] at hv2 HX HY
    have CN := q_takeNumber a6 c6 q1 V.heap.size 2 V7 hF7 hc6 hv2
    generalize takN 2 (q1.map Prod.fst) = TN at *
    obtain ⟨m2, R2⟩ := TN
    dsimp only at *
    clear hst7 hY6 HB6 hB7 hbut7 hF6 hvf hv2 hq1
    go_upto_region 8 with fail
    refine wl <| gz1 (.slice a6 q1.length c6) <|
     gze (fun v w' => ∃ a c qs, v = .tuple #[.int .u64 m2, .slice a qs.length c] ∧ FsB w' V.heap.size a qs ∧ qs.length ≤ c ∧ qs.map Prod.fst = R2 ∧ Below V7.heap.size V7 w') (CN.mono fun e w' q => by obtain ⟨a, c, qs, h1, h2⟩ := q; exact ⟨_, h1, a, c, qs, rfl, h2⟩) (fun v8 V8 hq => ?_)
    obtain ⟨a8, c8, q2, rfl, hF8, hc8, hq2, hb8⟩ := hq
    have hY8 := hY7.below hY7.lt hb8
    have HB8 := Lib.hid (HB7.out.trans (hb8.mono HB7.out.size))
    obtain ⟨V9, hst9, hY9, hB9, -⟩ := st_cell (i := 1) (ty := 22) (v := .int .u64 m2) (cs' := tfA (s1, m2)) hY8 HB8.out HG2.out (by show 1 < 2; decide) rfl (by kernel_rfl) rfl
    have HB9 := Lib.hid hB9
    clear CN hb8 hY7 HB7 hF7 hc6 hF8 hc8 hY8 HB8
    simp only [pu]
    refine gz4 (.tuple #[.int .u64 m2, .slice a8 q2.length c8]) (.int .u64 m2) (.slice a8 q2.length c8) (.pointer (some ⟨g2, 1, none⟩)) <| gzs rfl (hst9) <| gz1 (.slice a8 q2.length c8) <| wn ?_
    simp only [pu]
    rw [← hq2] at HX HY
    rw [List.length_map] at HX HY
    clear hst9 hB9 hq2
    obtain ⟨n2, hn2⟩ : ∃ n2, q2.length = n2 := ⟨_, rfl⟩
    rw [hn2] at HX HY ⊢
    clear hn2
    go_upto_region 9 with fail
    by_cases hz : n2 = 0
    ·skip
     refine wl <| gz2 (.slice a8 n2 c8) (.int .i64 n2) <| gzb (gtr_n rfl (n2) (0) dF) <| wn ?_
     simp only [pu]
     obtain ⟨hst, hZ⟩ := store_tf (y := (s1, m2)) hY9
     have HBA := Lib.hid (belowRow HB9.out HG2.out (tfA (s1, m2)))
     have HE := Lib.hid (HTY.out _ _ HBA.out (HY.out ⟨hk, hn, he, hz⟩))
     generalize World.setRow _ g2 (tfA (s1, m2)) = VA at *
     clear HTN HTY HX HY HBA HB9
     go_upto_region 11 with fail
     refine wl <| gzl rfl ⟨g2, 0, none⟩ (.agg (tfA (s1, m2))) (load_tfb hY9) <| gzs rfl (hst) <| gz1 (.bool true) <| wn ?_
     simp only [pu]
     go_wp2_with fail
     exact bodyPost_ret (results_c (p := 2) (q := 3) rfl (by kernel_rfl) (load_tfb hZ) rfl) rfl HE.out
    ·skip
     refine wl <| gz2 (.slice a8 n2 c8) (.int .i64 n2) <| gzb (gtr_n rfl (n2) (0) dT) <| wn ?_
     simp only [pu]
     obtain ⟨hst, hZ⟩ := store_tf (y := zTf) hY9
     have HBA := Lib.hid (belowRow HB9.out HG2.out (tfA zTf))
     have HE := Lib.hid (HTN.out _ HBA.out (HX.out (fun q => hz q.2.2.2)))
     generalize World.setRow _ g2 (tfA zTf) = VA at *
     clear HTN HTY HX HY
     go_upto_region 10 with fail
     refine wl <| gz1 (.agg #[.string ⟨#[]⟩, .int .u64 0]) <| gzs rfl (hst) <| gz1 (.bool false) <| wn ?_
     simp only [pu]
     go_wp2_with fail
     exact bodyPost_ret (results_c (p := 2) (q := 3) rfl (by kernel_rfl) (load_tfb hZ) rfl) rfl HE.out
   ·skip
    refine wl <| gz1 (.int .i64 e5) <| gzb (neq_e rfl e5 0 (decide_eq_false he)) <| wn ?_
    simp only [pu]
    obtain ⟨hst, hZ⟩ := store_tf (y := zTf) hY5
    have HB9 := Lib.hid (belowRow HB5.out HG2.out (tfA zTf))
    have HE := Lib.hid (HTN.out _ HB9.out (HX.out (fun q => he q.2.2.1)))
    generalize World.setRow _ g2 (tfA zTf) = V9 at *
    clear HTN HTY HX HY
    go_upto_region 6 with fail
    refine wl <| gz1 (.agg #[.string ⟨#[]⟩, .int .u64 0]) <| gzs rfl (hst) <| gz1 (.bool false) <| wn ?_
    simp only [pu]
    go_wp2_with fail
    exact bodyPost_ret (results_c (p := 2) (q := 3) rfl (by kernel_rfl) (load_tfb hZ) rfl) rfl HE.out
  ·skip
   refine wl <| gz4 (.bool true) (.bool false) (.bool false) (.pointer (some ⟨g0, 0, none⟩)) <| gzl rfl ⟨g0, 0, none⟩ (.int .i64 x.num) (hXV.load (i := 0) rfl (by kernel_rfl)) <| gzb (neq_n rfl x.num 6 (decide_eq_false hn)) <|
    gz1 (.bool true) <| wn ?_
   simp only [pu]
   obtain ⟨hst, hZ⟩ := store_tf (y := zTf) hYV
   have HB9 := Lib.hid (belowRow HBV.out HG2.out (tfA zTf))
   have HE := Lib.hid (HTN.out _ HB9.out (HX.out (fun q => hn q.2.1)))
   generalize World.setRow _ g2 (tfA zTf) = V9 at *
   clear HTN HTY HX HY
   go_upto_region 3 with fail
   refine wl <| gz1 (.agg #[.string ⟨#[]⟩, .int .u64 0]) <| gzs rfl (hst) <| gz1 (.bool false) <| wn ?_
   simp only [pu]
   go_wp2_with fail
   exact bodyPost_ret (results_c (p := 2) (q := 3) rfl (by kernel_rfl) (load_tfb hZ) rfl) rfl HE.out
end Go.Proofs.Ytglglhcnofbagaa
