/-
  The program's heap: Push.
-/
import Derived.Test.YtepdibnbnhkpnaaHR
namespace Go.Proofs.Ytepdibnbnhkpnaa
open Go.RowKit
set_option linter.unusedSimpArgs false
set_option linter.unusedVariables false

/-- An item is appended, and the slice stored. -/
theorem push_run {Bd g q : Nat} {d : Hd} {f : Int → Option Int} {V : World} (h : Mh V g d f) (hB : ∀ k, Sh g d k → Bd ≤ k) (hw : Bd ≤ V.heap.size) {x : It} (hq : Cs V (some ⟨q, 0, none⟩) (itc [x])) (hl : d.A.length ≤ 100000) : ∃ u V2,
    (Builtin.append_ #[35, 35] 35 #[.slice d.ka d.A.length d.kc, .slice (some ⟨q, 0, none⟩) 1 1]).run Try.prog V = .ok u V2 ∧ ∃ V3,
    (Instr.storeAt 35 (.pointer (some ⟨g, 0, none⟩)) u).run Try.prog V2 = .ok () V3 ∧ ∃ a c, Gh Bd g d V { d with ka := a, kc := c, A := d.A ++ [x] } f V3 := by
  obtain ⟨u, V2, hap, hO, hg, ha⟩ := app_one (P := Try.prog) (t := 35) Try.underlying35 infoX (by kernel_rfl) (by omega) (by omega) h.rk q (itc [x]) hq rfl (itc_one _) (Nat.zero_le _) hl
  rw [← itc_app] at hO
  have hgB := (Gh.grown h hB hw (Below.refl _ _) 2 (fun k e => own_some e) hg).2 0 g (by omega) rfl
  obtain ⟨a, c, rfl, hG⟩ := Gh.push h hB hw (Below.refl _ _) hO hg ha
  exact ⟨_, V2, hap, _, run_store_cell (i := 0) (ty := 35) (hgB.trans h.bx : Bx V2 g (hdh d) 58) (by simp [hdh]) rfl (by kernel_rfl), a, c, hG⟩
/-- What the region keeps that appends an item. -/
structure PW (x : It) (C D : World → Prop) (St : Value → World → Prop) (b4 b5 b6 b7 b10 : Bool) (x32 x33 : Value) (V : World) : Prop where
  c0 : b7 = false → C V
  c1 : b6 = true → b7 = false → ∃ q, x32 = .slice (some ⟨q, 0, none⟩) 1 1 ∧ Cs V (some ⟨q, 0, none⟩) (itc [x])
  c2 : b7 = true → b10 = false → St x33 V
  c3 : b10 = true → D V
  d1 : b7 = true → b4 = true ∧ b6 = true
  d2 : b10 = true → b7 = true
  d3 : b6 = true → b5 = true
section
variable {x : It} {C D : World → Prop} {St : Value → World → Prop} {b4 b5 b6 b7 b10 : Bool} {x32 x33 u : Value} {V V2 : World}
theorem PW.start (h : C V) : PW x C D St false false false false false undef undef V := ⟨fun _ => h, fun h => (by cases h), fun h => (by cases h), fun h => (by cases h), fun h => (by cases h), fun h => (by cases h), fun h => (by cases h)⟩
theorem PW.n7a (h : PW x C D St false b5 b6 b7 b10 x32 x33 V) : b7 = false := by cases b7; rfl; exact absurd (h.d1 rfl).1 (by decide)
theorem PW.n7b (h : PW x C D St b4 b5 false b7 b10 x32 x33 V) : b7 = false := by cases b7; rfl; exact absurd (h.d1 rfl).2 (by decide)
theorem PW.n6 (h : PW x C D St b4 false b6 b7 b10 x32 x33 V) : b6 = false := by cases b6; rfl; exact absurd (h.d3 rfl) (by decide)
theorem PW.n10 (h : PW x C D St b4 b5 b6 false b10 x32 x33 V) : b10 = false := by cases b10; rfl; exact absurd (h.d2 rfl) (by decide)
theorem PW.m4 (h : PW x C D St b4 b5 b6 b7 b10 x32 x33 V) : PW x C D St true b5 b6 b7 b10 x32 x33 V := ⟨h.c0, h.c1, h.c2, h.c3, fun k => ⟨rfl, (h.d1 k).2⟩, h.d2, h.d3⟩
theorem PW.m5 (h : PW x C D St b4 b5 b6 b7 b10 x32 x33 V) : PW x C D St b4 true b6 b7 b10 x32 x33 V := ⟨h.c0, h.c1, h.c2, h.c3, h.d1, h.d2, fun _ => rfl⟩
theorem PW.m6 (h : PW x C D St b4 true false false false x32 x33 V) {q : Nat} (hC : C V2) (hq : Cs V2 (some ⟨q, 0, none⟩) (itc [x])) : PW x C D St b4 true true false false (.slice (some ⟨q, 0, none⟩) 1 1) x33 V2 :=
  ⟨fun _ => hC, fun _ _ => ⟨q, rfl, hq⟩, fun h => (by cases h), fun h => (by cases h), fun h => (by cases h), fun h => (by cases h), fun _ => rfl⟩
theorem PW.m7 (h : PW x C D St true b5 true false false x32 x33 V) (hS : St u V2) : PW x C D St true b5 true true false x32 u V2 :=
  ⟨fun h => (by cases h), fun _ h => (by cases h), fun _ _ => hS, fun h => (by cases h), fun _ => ⟨rfl, rfl⟩, fun h => (by cases h), h.d3⟩
theorem PW.m10 (h : PW x C D St b4 b5 b6 true b10 x32 x33 V) (hD : D V2) : PW x C D St b4 b5 b6 true true x32 x33 V2 :=
  ⟨fun h => (by cases h), fun _ h => (by cases h), fun _ h => (by cases h), fun _ => hD, h.d1, fun _ => rfl, h.d3⟩
end
set_option maxRecDepth 100000 in
set_option maxHeartbeats 4000000 in
theorem n_push (w : World) (x : It) : Calls Try.prog 15 #[.pointer none, .agg (itA x)] w fun e w' => e = .returned (.bool false) ∧ Gd w w' := by
  have hg := Gd.alloc w (.cells (itA x) 24)
  go_enter Try.func15, Try.ntmps15
  go_upto_region 1 with fail
  change Code.wp _ _ _ _ (w.alloc (.cells (itA x) 24))
  generalize w.alloc (.cells (itA x) 24) = W at *
  apply wp_region_lit
  refine gw_val (by kernel_rfl) (some 8) rfl (.pointer none) (by kernel_rfl) ?_
  simp only [Act.put, List.setIfInBounds_toArray, List.set_cons_succ, List.set_cons_zero]
  refine gw_val (by kernel_rfl) (some 9) rfl (.bool true) (by kernel_rfl) ?_
  simp only [Act.put, List.setIfInBounds_toArray, List.set_cons_succ, List.set_cons_zero]
  apply wpList_nil
  go_upto_region 2 with fail
  apply wp_region_lit
  refine gw_val (by kernel_rfl) (some 4) rfl (.bool false) (by kernel_rfl) ?_
  simp only [Act.put, List.setIfInBounds_toArray, List.set_cons_succ, List.set_cons_zero]
  apply wpList_nil
  go_wp2_with fail
  go_ret
  exact ⟨rfl, hg⟩
set_option maxRecDepth 100000 in
set_option maxHeartbeats 4000000 in
theorem q_push0 {Bd g : Nat} {d : Hd} {f : Int → Option Int} {w : World} (I : In9 Bd g d f w) (x : It) {M : List It} (hp : d.A.Perm M) {n : Int} (hf : f x.1 = some n) : Calls Try.prog 15 #[.pointer (some ⟨g, 0, none⟩), .agg (itA x)] w fun e w' => e = .returned (.bool (insM M x).2) ∧ Ou9 Bd g d w (insM M x).1 w' := by
  have hh : hasId x.1 M = true := by
    obtain ⟨i, -, hi, hk⟩ := I.some hf
    exact hasId_true.2 ⟨_, hp.mem_iff.1 (ita_mem hi), hk⟩
  have e1 : insM M x = (M, false) := by unfold insM; rw [hh]; rfl
  rw [e1]
  have HO := Lib.hid (fun V (hV : Below w.heap.size w V) => I.ou hp hV)
  obtain ⟨hb, hX⟩ := (⟨Gd.alloc w _, heap_alloc_last w _⟩ : Gd w (w.alloc (.cells (itA x) 24)) ∧ Bx (w.alloc (.cells (itA x) 24)) w.heap.size (itA x) 24)
  have HL1 := Lib.hid (fun U (hU : Below w.heap.size w U) => (I.mem.below hU).ld1)
  have HM := Lib.hid (fun U (hU : Below w.heap.size w U) => (by
    have := (I.mem.below hU).mp.look x.1 true
    rw [hf] at this
    exact this : (Instr.lookup 56 (.map (some d.B)) (.int .i64 x.1) true).run Try.prog U = .ok (.tuple #[.int .i64 n, .bool true]) U))
  clear I hp hf hh e1
  go_enter Try.func15, Try.ntmps15
  go_upto_region 1 with fail
  change Code.wp _ _ _ _ (w.alloc (.cells (itA x) 24))
  generalize w.alloc (.cells (itA x) 24) = W at *
  obtain ⟨g0, hg0⟩ : ∃ g0, w.heap.size = g0 := ⟨_, rfl⟩
  rw [hg0] at hX
  have HG0 := Lib.hid hg0
  have HB0 := Lib.hid hb.1
  clear hb
  simp only [hg0]
  clear hg0
  apply wp_region_lit
  refine gw_val (by kernel_rfl) (some 8) rfl (.pointer (some ⟨g, 0, none⟩)) (by kernel_rfl) ?_
  simp only [Act.put, List.setIfInBounds_toArray, List.set_cons_succ, List.set_cons_zero]
  refine gw_val (by kernel_rfl) (some 9) rfl (.bool false) (by kernel_rfl) ?_
  simp only [Act.put, List.setIfInBounds_toArray, List.set_cons_succ, List.set_cons_zero]
  apply wpList_nil
  go_upto_region 3 with fail
  refine wp_region_class (C := fun U => Below w.heap.size w U ∧ Bx U g0 (itA x) 24) (by kernel_rfl) (by kernel_rfl) (⟨HB0.out.drew, hX⟩) ?_
  refine gq_val (by kernel_rfl) (some 11) rfl (.pointer (some ⟨g, 0, none⟩)) (fun U hU => by kernel_rfl) ?_
  simp only [Act.put, List.setIfInBounds_toArray, List.set_cons_succ, List.set_cons_zero]
  refine gq_val (by kernel_rfl) (some 12) rfl (.pointer (some ⟨g, 0, none⟩)) (fun U hU => by kernel_rfl) ?_
  simp only [Act.put, List.setIfInBounds_toArray, List.set_cons_succ, List.set_cons_zero]
  refine gq_val (by kernel_rfl) (some 13) rfl (.pointer (some ⟨g, 1, none⟩)) (fun U hU => by kernel_rfl) ?_
  simp only [Act.put, List.setIfInBounds_toArray, List.set_cons_succ, List.set_cons_zero]
  refine gq_load (by kernel_rfl) (some 14) rfl 56 (.tmp 13) rfl ⟨g, 1, none⟩ (.map (some d.B)) (by kernel_rfl) (fun U hU => HL1.out U hU.1) ?_
  simp only [Act.put, List.setIfInBounds_toArray, List.set_cons_succ, List.set_cons_zero]
  refine gq_val (by kernel_rfl) (some 15) rfl (.pointer (some ⟨g0, 0, none⟩)) (fun U hU => by kernel_rfl) ?_
  simp only [Act.put, List.setIfInBounds_toArray, List.set_cons_succ, List.set_cons_zero]
  refine gq_load (by kernel_rfl) (some 16) rfl 3 (.tmp 15) rfl ⟨g0, 0, none⟩ (.int .i64 x.1) (by kernel_rfl) (fun U hU => ld_f0 hU.2) ?_
  simp only [Act.put, List.setIfInBounds_toArray, List.set_cons_succ, List.set_cons_zero]
  refine gq_val (by kernel_rfl) (some 17) rfl (.tuple #[.int .i64 n, .bool true]) (fun U hU => ex_look 56 (.tmp 14) (.tmp 16) true rfl (.map (some d.B)) (.int .i64 x.1) _ (by kernel_rfl) (by kernel_rfl) (HM.out U hU.1)) ?_
  simp only [Act.put, List.setIfInBounds_toArray, List.set_cons_succ, List.set_cons_zero]
  refine gq_val (by kernel_rfl) (some 10) rfl (.tuple #[.int .i64 n, .bool true]) (fun U hU => by kernel_rfl) ?_
  simp only [Act.put, List.setIfInBounds_toArray, List.set_cons_succ, List.set_cons_zero]
  refine gq_val (by kernel_rfl) (some 18) rfl (.int .i64 n) (fun U hU => by kernel_rfl) ?_
  simp only [Act.put, List.setIfInBounds_toArray, List.set_cons_succ, List.set_cons_zero]
  refine gq_val (by kernel_rfl) (some 19) rfl (.bool true) (fun U hU => by kernel_rfl) ?_
  simp only [Act.put, List.setIfInBounds_toArray, List.set_cons_succ, List.set_cons_zero]
  refine gq_val (by kernel_rfl) (some 5) rfl (.int .i64 n) (fun U hU => by kernel_rfl) ?_
  simp only [Act.put, List.setIfInBounds_toArray, List.set_cons_succ, List.set_cons_zero]
  refine gq_val (by kernel_rfl) (some 6) rfl (.bool true) (fun U hU => by kernel_rfl) ?_
  simp only [Act.put, List.setIfInBounds_toArray, List.set_cons_succ, List.set_cons_zero]
  apply wpQuiet_nil
  intro V hV
  have HV := Lib.hid hV
  clear hV HM HL1 hX
  go_upto_region 4 with fail
  apply wp_region_lit
  refine gw_val (by kernel_rfl) (some 20) rfl (.bool true) (by kernel_rfl) ?_
  simp only [Act.put, List.setIfInBounds_toArray, List.set_cons_succ, List.set_cons_zero]
  apply wpList_nil
  go_upto_region 5 with fail
  apply wp_region_lit
  refine gw_val (by kernel_rfl) (some 4) rfl (.bool false) (by kernel_rfl) ?_
  simp only [Act.put, List.setIfInBounds_toArray, List.set_cons_succ, List.set_cons_zero]
  apply wpList_nil
  have HE := Lib.hid (HO.out V HV.out.1)
  clear HO HV
  go_wp2_with fail
  go_ret
  exact ⟨rfl, HE.out⟩
set_option maxRecDepth 100000 in
set_option maxHeartbeats 4000000 in
theorem q_push1 {Bd g : Nat} {d : Hd} {f : Int → Option Int} {w : World} (I : In9 Bd g d f w) (x : It) {M : List It} (hp : d.A.Perm M) (hf : f x.1 = none) (hln : d.A.length + 1 ≤ 90000) : Calls Try.prog 15 #[.pointer (some ⟨g, 0, none⟩), .agg (itA x)] w fun e w' => e = .returned (.bool (insM M x).2) ∧ Ou9 Bd g d w (insM M x).1 w' := by
  have hh : hasId x.1 M = false := I.none hp hf
  have hhA : hasId x.1 d.A = false := by rw [hasId_perm hp]; exact hh
  rw [show (insM M x).2 = true by rw [insM_ok, hh]; rfl]
  have hPM : (d.A ++ [x]).Perm (insM M x).1 := (List.perm_append_comm (l₁ := d.A) (l₂ := [x])).trans ((List.Perm.cons x hp).trans (ins_perm hh).symm)
  generalize (insM M x).1 = M2 at *
  have hpx := I.px.app hhA
  have hgen := gen_app I.ho x
  have hnd : ((d.A ++ [x]).map (·.1)).Nodup := by
    rw [List.map_append, List.nodup_append]
    refine ⟨I.ids, by simp, fun a ha b hb e => ?_⟩
    obtain ⟨y, hy, rfl⟩ := List.mem_map.1 ha
    simp only [List.map_cons, List.map_nil, List.mem_singleton] at hb
    exact hasId_no.1 hhA y hy (e.trans hb)
  have hlA : (d.A ++ [x]).length = d.A.length + 1 := by simp
  obtain ⟨hb, hX⟩ := (⟨Gd.alloc w _, heap_alloc_last w _⟩ : Gd w (w.alloc (.cells (itA x) 24)) ∧ Bx (w.alloc (.cells (itA x) 24)) w.heap.size (itA x) 24)
  have HL1 := Lib.hid (fun U (hU : Below w.heap.size w U) => (I.mem.below hU).ld1)
  have HM := Lib.hid (fun U (hU : Below w.heap.size w U) => (by
    have := (I.mem.below hU).mp.look x.1 true
    rw [hf] at this
    exact this : (Instr.lookup 56 (.map (some d.B)) (.int .i64 x.1) true).run Try.prog U = .ok (.tuple #[.int .i64 0, .bool false]) U))
  have HGH := Lib.hid (fun U (hU : Below w.heap.size w U) => (Gh.below I.mem hU I.hw : Gh Bd g d w d f U))
  have HNI := Lib.hid (Gh.notin I.mem (Nat.le_refl _))
  have HHB := Lib.hid I.hB
  have HHW := Lib.hid I.hw
  obtain ⟨n, hn⟩ : ∃ n, d.A.length = n := ⟨_, rfl⟩
  have HN := Lib.hid hn
  rw [hn] at hpx hgen hlA hln
  have HPX := Lib.hid hpx
  have HGE := Lib.hid hgen
  have HND := Lib.hid hnd
  have HLA := Lib.hid hlA
  have HPM := Lib.hid hPM
  clear I hp hf hh hhA hPM hpx hgen hnd hlA hn
  go_enter Try.func15, Try.ntmps15
  go_upto_region 1 with fail
  change Code.wp _ _ _ _ (w.alloc (.cells (itA x) 24))
  generalize w.alloc (.cells (itA x) 24) = W at *
  obtain ⟨g0, hg0⟩ : ∃ g0, w.heap.size = g0 := ⟨_, rfl⟩
  rw [hg0] at hX
  have HG0 := Lib.hid hg0
  have HB0 := Lib.hid hb.1
  clear hb
  simp only [hg0]
  clear hg0
  apply wp_region_lit
  refine gw_val (by kernel_rfl) (some 8) rfl (.pointer (some ⟨g, 0, none⟩)) (by kernel_rfl) ?_
  simp only [Act.put, List.setIfInBounds_toArray, List.set_cons_succ, List.set_cons_zero]
  refine gw_val (by kernel_rfl) (some 9) rfl (.bool false) (by kernel_rfl) ?_
  simp only [Act.put, List.setIfInBounds_toArray, List.set_cons_succ, List.set_cons_zero]
  apply wpList_nil
  go_upto_region 3 with fail
  refine wp_region_class (C := fun U => Below w.heap.size w U ∧ Bx U g0 (itA x) 24) (by kernel_rfl) (by kernel_rfl) (⟨HB0.out.drew, hX⟩) ?_
  refine gq_val (by kernel_rfl) (some 11) rfl (.pointer (some ⟨g, 0, none⟩)) (fun U hU => by kernel_rfl) ?_
  simp only [Act.put, List.setIfInBounds_toArray, List.set_cons_succ, List.set_cons_zero]
  refine gq_val (by kernel_rfl) (some 12) rfl (.pointer (some ⟨g, 0, none⟩)) (fun U hU => by kernel_rfl) ?_
  simp only [Act.put, List.setIfInBounds_toArray, List.set_cons_succ, List.set_cons_zero]
  refine gq_val (by kernel_rfl) (some 13) rfl (.pointer (some ⟨g, 1, none⟩)) (fun U hU => by kernel_rfl) ?_
  simp only [Act.put, List.setIfInBounds_toArray, List.set_cons_succ, List.set_cons_zero]
  refine gq_load (by kernel_rfl) (some 14) rfl 56 (.tmp 13) rfl ⟨g, 1, none⟩ (.map (some d.B)) (by kernel_rfl) (fun U hU => HL1.out U hU.1) ?_
  simp only [Act.put, List.setIfInBounds_toArray, List.set_cons_succ, List.set_cons_zero]
  refine gq_val (by kernel_rfl) (some 15) rfl (.pointer (some ⟨g0, 0, none⟩)) (fun U hU => by kernel_rfl) ?_
  simp only [Act.put, List.setIfInBounds_toArray, List.set_cons_succ, List.set_cons_zero]
  refine gq_load (by kernel_rfl) (some 16) rfl 3 (.tmp 15) rfl ⟨g0, 0, none⟩ (.int .i64 x.1) (by kernel_rfl) (fun U hU => ld_f0 hU.2) ?_
  simp only [Act.put, List.setIfInBounds_toArray, List.set_cons_succ, List.set_cons_zero]
  refine gq_val (by kernel_rfl) (some 17) rfl (.tuple #[.int .i64 0, .bool false]) (fun U hU => ex_look 56 (.tmp 14) (.tmp 16) true rfl (.map (some d.B)) (.int .i64 x.1) _ (by kernel_rfl) (by kernel_rfl) (HM.out U hU.1)) ?_
  simp only [Act.put, List.setIfInBounds_toArray, List.set_cons_succ, List.set_cons_zero]
  refine gq_val (by kernel_rfl) (some 10) rfl (.tuple #[.int .i64 0, .bool false]) (fun U hU => by kernel_rfl) ?_
  simp only [Act.put, List.setIfInBounds_toArray, List.set_cons_succ, List.set_cons_zero]
  refine gq_val (by kernel_rfl) (some 18) rfl (.int .i64 0) (fun U hU => by kernel_rfl) ?_
  simp only [Act.put, List.setIfInBounds_toArray, List.set_cons_succ, List.set_cons_zero]
  refine gq_val (by kernel_rfl) (some 19) rfl (.bool false) (fun U hU => by kernel_rfl) ?_
  simp only [Act.put, List.setIfInBounds_toArray, List.set_cons_succ, List.set_cons_zero]
  refine gq_val (by kernel_rfl) (some 5) rfl (.int .i64 0) (fun U hU => by kernel_rfl) ?_
  simp only [Act.put, List.setIfInBounds_toArray, List.set_cons_succ, List.set_cons_zero]
  refine gq_val (by kernel_rfl) (some 6) rfl (.bool false) (fun U hU => by kernel_rfl) ?_
  simp only [Act.put, List.setIfInBounds_toArray, List.set_cons_succ, List.set_cons_zero]
  apply wpQuiet_nil
  intro V hV
  have HV := Lib.hid hV
  clear hV HM HL1 hX
  go_upto_region 4 with fail
  apply wp_region_lit
  refine gw_val (by kernel_rfl) (some 20) rfl (.bool false) (by kernel_rfl) ?_
  simp only [Act.put, List.setIfInBounds_toArray, List.set_cons_succ, List.set_cons_zero]
  apply wpList_nil
  have HLN := Lib.hid (by
    have := (HGH.out V HV.out.1).mem.ld0
    rw [HN.out] at this
    exact this : (Instr.loadAt 35 (.pointer (some ⟨g, 0, none⟩))).run Try.prog V = .ok (.slice d.ka n d.kc) V)
  go_upto_region 6 with fail
  apply wp_region_lit
  refine gw_val (by kernel_rfl) (some 21) rfl (.pointer (some ⟨g, 0, none⟩)) (by kernel_rfl) ?_
  simp only [Act.put, List.setIfInBounds_toArray, List.set_cons_succ, List.set_cons_zero]
  refine gw_val (by kernel_rfl) (some 22) rfl (.pointer (some ⟨g, 0, none⟩)) (by kernel_rfl) ?_
  simp only [Act.put, List.setIfInBounds_toArray, List.set_cons_succ, List.set_cons_zero]
  refine gw_val (by kernel_rfl) (some 23) rfl (.pointer (some ⟨g, 0, none⟩)) (by kernel_rfl) ?_
  simp only [Act.put, List.setIfInBounds_toArray, List.set_cons_succ, List.set_cons_zero]
  refine gw_load (by kernel_rfl) (some 24) rfl 35 (.tmp 23) rfl ⟨g, 0, none⟩ (.slice d.ka n d.kc) (by kernel_rfl) (HLN.out) ?_
  simp only [Act.put, List.setIfInBounds_toArray, List.set_cons_succ, List.set_cons_zero]
  refine gw_val (by kernel_rfl) (some 25) rfl (.int .i64 n) (by kernel_rfl) ?_
  simp only [Act.put, List.setIfInBounds_toArray, List.set_cons_succ, List.set_cons_zero]
  refine gw_val (by kernel_rfl) (some 7) rfl (.int .i64 n) (by kernel_rfl) ?_
  simp only [Act.put, List.setIfInBounds_toArray, List.set_cons_succ, List.set_cons_zero]
  apply wpList_nil
  have hC0 : (fun U => Gh Bd g d w d f U ∧ Bx U g0 (itA x) 24) V := ⟨HGH.out V HV.out.1, HV.out.2⟩
  have HNI0 : Hid (¬ Sh g d g0) := Lib.hid (HG0.out ▸ HNI.out)
  have HL0 := Lib.hid (fun U (hU : (fun U => Gh Bd g d w d f U ∧ Bx U g0 (itA x) 24) U) => (by
    have := hU.1.mem.ld0
    rw [HN.out] at this
    exact this : (Instr.loadAt 35 (.pointer (some ⟨g, 0, none⟩))).run Try.prog U = .ok (.slice d.ka n d.kc) U))
  have HCA := Lib.hid (fun U (hU : (fun U => Gh Bd g d w d f U ∧ Bx U g0 (itA x) 24) U) => (⟨hU.1.trans (Gh.below hU.1.mem ((Below.refl _ U).alloc (Nat.le_refl _) _) (hU.1.size HHW.out)), hU.2.below hU.2.lt ((Below.refl _ U).alloc (Nat.le_refl _) _)⟩ : (fun U => Gh Bd g d w d f U ∧ Bx U g0 (itA x) 24) (U.alloc (.cells (itA x) 24))))
  have HAP := Lib.hid (fun U (hU : (fun U => Gh Bd g d w d f U ∧ Bx U g0 (itA x) 24) U) q (hq : Cs U (some ⟨q, 0, none⟩) (itc [x])) => (by
    obtain ⟨u, U2, hap, U3, hst, a, c, hG⟩ := push_run hU.1.mem (hU.1.base HHB.out HHW.out) (hU.1.size HHW.out) hq (by rw [HN.out]; omega)
    rw [HN.out] at hap
    exact ⟨u, U2, hap, U3, hst, ⟨a, c, hU.1.trans hG⟩, hU.2.buts hG.but HNI0.out⟩ : ∃ u U2, (Builtin.append_ #[35, 35] 35 #[.slice d.ka n d.kc, .slice (some ⟨q, 0, none⟩) 1 1]).run Try.prog U = .ok u U2 ∧ (fun u U => ∃ U3, (Instr.storeAt 35 (.pointer (some ⟨g, 0, none⟩)) u).run Try.prog U = .ok () U3 ∧ (fun U => (∃ a c, Gh Bd g d w { d with ka := a, kc := c, A := d.A ++ [x] } f U) ∧ Bx U g0 (itA x) 24) U3) u U2))
  clear HV HGH HLN HNI
  go_upto_region 7 with fail
  have h0 : PW x (fun U => Gh Bd g d w d f U ∧ Bx U g0 (itA x) 24) (fun U => (∃ a c, Gh Bd g d w { d with ka := a, kc := c, A := d.A ++ [x] } f U) ∧ Bx U g0 (itA x) 24) (fun u U => ∃ U3, (Instr.storeAt 35 (.pointer (some ⟨g, 0, none⟩)) u).run Try.prog U = .ok () U3 ∧ (fun U => (∃ a c, Gh Bd g d w { d with ka := a, kc := c, A := d.A ++ [x] } f U) ∧ Bx U g0 (itA x) 24) U3) false false false false false undef undef V.drew := PW.start ⟨hC0.1.drew, hC0.2⟩
  clear hC0
  refine wp_region_inv (fun listed act9 V => ∃ b0 b1 b2 b3 b4 b5 b6 b7 b8 b9 b10 : Bool, ∃ x32 x33 : Value, listed = #[b0, b1, b2, b3, b4, b5, b6, b7, b8, b9, b10] ∧ act9 = { tmps := #[.pointer (some ⟨g, 0, none⟩), .agg (itA x), undef, .pointer (some ⟨g0, 0, none⟩), .bool false, .int .i64 0, .bool false, .int .i64 n, .pointer (some ⟨g, 0, none⟩), .bool false, .tuple #[.int .i64 0, .bool false], .pointer (some ⟨g, 0, none⟩), .pointer (some ⟨g, 0, none⟩), .pointer (some ⟨g, 1, none⟩), .map (some d.B), .pointer (some ⟨g0, 0, none⟩), .int .i64 x.1, .tuple #[.int .i64 0, .bool false], .int .i64 0, .bool false, .bool false, .pointer (some ⟨g, 0, none⟩), .pointer (some ⟨g, 0, none⟩), .pointer (some ⟨g, 0, none⟩), .slice d.ka n d.kc, .int .i64 n, (cond b0 (.pointer (some ⟨g, 0, none⟩)) undef), (cond b1 (.pointer (some ⟨g, 0, none⟩)) undef), (cond b2 (.pointer (some ⟨g, 0, none⟩)) undef), (cond b3 (.pointer (some ⟨g, 0, none⟩)) undef), (cond b4 (.slice d.ka n d.kc) undef), (cond b5 (.agg (itA x)) undef), x32, x33, (cond b8 (.pointer (some ⟨g, 0, none⟩)) undef), (cond b9 (.pointer (some ⟨g, 0, none⟩)) undef), undef, undef, undef, undef, undef, undef, undef, undef, undef, undef], defers := [] } ∧ PW x (fun U => Gh Bd g d w d f U ∧ Bx U g0 (itA x) 24) (fun U => (∃ a c, Gh Bd g d w { d with ka := a, kc := c, A := d.A ++ [x] } f U) ∧ Bx U g0 (itA x) 24) (fun u U => ∃ U3, (Instr.storeAt 35 (.pointer (some ⟨g, 0, none⟩)) u).run Try.prog U = .ok () U3 ∧ (fun U => (∃ a c, Gh Bd g d w { d with ka := a, kc := c, A := d.A ++ [x] } f U) ∧ Bx U g0 (itA x) 24) U3) b4 b5 b6 b7 b10 x32 x33 V) (by kernel_rfl) (by kernel_rfl) ?_ ?_ ?_
  · exact ⟨false, false, false, false, false, false, false, false, false, false, false, undef, undef, rfl, rfl, h0⟩
  · intro i9 listed act9 V hi9 hr hJ
    obtain ⟨b0, b1, b2, b3, b4, b5, b6, b7, b8, b9, b10, x32, x33, rfl, rfl, hF⟩ := hJ
    have hi2 : i9 < 11 := hi9
    have hi3 : i9 = 0 ∨ i9 = 1 ∨ i9 = 2 ∨ i9 = 3 ∨ i9 = 4 ∨ i9 = 5 ∨ i9 = 6 ∨ i9 = 7 ∨ i9 = 8 ∨ i9 = 9 ∨ i9 = 10 := by omega
    rcases hi3 with rfl | rfl | rfl | rfl | rfl | rfl | rfl | rfl | rfl | rfl | rfl
    · obtain rfl : b0 = false := ready_self hr
      refine st_val rfl (by kernel_rfl) (some 26) rfl (.pointer (some ⟨g, 0, none⟩)) V (by kernel_rfl) ?_
      exact ⟨true, b1, b2, b3, b4, b5, b6, b7, b8, b9, b10, x32, x33, rfl, rfl, hF⟩
    · obtain rfl : b1 = false := ready_self hr
      refine st_val rfl (by kernel_rfl) (some 27) rfl (.pointer (some ⟨g, 0, none⟩)) V (by kernel_rfl) ?_
      exact ⟨b0, true, b2, b3, b4, b5, b6, b7, b8, b9, b10, x32, x33, rfl, rfl, hF⟩
    · obtain rfl : b2 = false := ready_self hr
      obtain rfl : b1 = true := ready_dep hr 1 (by kernel_rfl)
      refine st_val rfl (by kernel_rfl) (some 28) rfl (.pointer (some ⟨g, 0, none⟩)) V (by kernel_rfl) ?_
      exact ⟨b0, true, true, b3, b4, b5, b6, b7, b8, b9, b10, x32, x33, rfl, rfl, hF⟩
    · obtain rfl : b3 = false := ready_self hr
      obtain rfl : b2 = true := ready_dep hr 2 (by kernel_rfl)
      refine st_val rfl (by kernel_rfl) (some 29) rfl (.pointer (some ⟨g, 0, none⟩)) V (by kernel_rfl) ?_
      exact ⟨b0, b1, true, true, b4, b5, b6, b7, b8, b9, b10, x32, x33, rfl, rfl, hF⟩
    · obtain rfl : b4 = false := ready_self hr
      obtain rfl : b3 = true := ready_dep hr 3 (by kernel_rfl)
      obtain rfl : b7 = false := hF.n7a
      refine st_load rfl (by kernel_rfl) (some 30) rfl 35 (.tmp 29) rfl ⟨g, 0, none⟩ (.slice d.ka n d.kc) (by kernel_rfl) (HL0.out V (hF.c0 rfl)) ?_
      exact ⟨b0, b1, b2, true, true, b5, b6, false, b8, b9, b10, x32, x33, rfl, rfl, hF.m4⟩
    · obtain rfl : b5 = false := ready_self hr
      obtain rfl : b6 = false := hF.n6
      obtain rfl : b7 = false := hF.n7b
      refine st_load rfl (by kernel_rfl) (some 31) rfl 24 (.tmp 3) rfl ⟨g0, 0, none⟩ (.agg (itA x)) (by kernel_rfl) (load_box (hF.c0 rfl).2) ?_
      exact ⟨b0, b1, b2, b3, b4, true, false, false, b8, b9, b10, x32, x33, rfl, rfl, hF.m5⟩
    · obtain rfl : b6 = false := ready_self hr
      obtain rfl : b5 = true := ready_dep hr 5 (by kernel_rfl)
      obtain rfl : b7 = false := hF.n7b
      obtain rfl : b10 = false := hF.n10
      have hC := HCA.out V (hF.c0 rfl)
      refine st_build rfl (by kernel_rfl) (some 32) rfl 35 1 #[(0, .tmp 31)] rfl #[(0, .agg (itA x))] (by kernel_rfl) (.slice (some ⟨V.heap.size, 0, none⟩) 1 1) _ (build_it x V) ?_
      exact ⟨b0, b1, b2, b3, b4, true, true, false, b8, b9, false, _, x33, rfl, rfl, hF.m6 hC (bx_it x V)⟩
    · obtain rfl : b7 = false := ready_self hr
      obtain rfl : b4 = true := ready_dep hr 4 (by kernel_rfl)
      obtain rfl : b6 = true := ready_dep hr 6 (by kernel_rfl)
      obtain rfl : b10 = false := hF.n10
      obtain ⟨q, rfl, hq⟩ := hF.c1 rfl rfl
      obtain ⟨v, V2, hap, hst⟩ := HAP.out V (hF.c0 rfl) q hq
      refine st_append rfl (by kernel_rfl) (some 33) rfl 35 rfl (.tmp 30) (.tmp 32) 35 rfl (.slice d.ka n d.kc) (.slice (some ⟨q, 0, none⟩) 1 1) v V2 (by kernel_rfl) (by kernel_rfl) hap ?_
      exact ⟨b0, b1, b2, b3, true, b5, true, true, b8, b9, false, .slice (some ⟨q, 0, none⟩) 1 1, v, rfl, rfl, hF.m7 hst⟩
    · obtain rfl : b8 = false := ready_self hr
      obtain rfl : b0 = true := ready_dep hr 0 (by kernel_rfl)
      refine st_val rfl (by kernel_rfl) (some 34) rfl (.pointer (some ⟨g, 0, none⟩)) V (by kernel_rfl) ?_
      exact ⟨true, b1, b2, b3, b4, b5, b6, b7, true, b9, b10, x32, x33, rfl, rfl, hF⟩
    · obtain rfl : b9 = false := ready_self hr
      obtain rfl : b8 = true := ready_dep hr 8 (by kernel_rfl)
      refine st_val rfl (by kernel_rfl) (some 35) rfl (.pointer (some ⟨g, 0, none⟩)) V (by kernel_rfl) ?_
      exact ⟨b0, b1, b2, b3, b4, b5, b6, b7, true, true, b10, x32, x33, rfl, rfl, hF⟩
    · obtain rfl : b10 = false := ready_self hr
      obtain rfl : b7 = true := ready_dep hr 7 (by kernel_rfl)
      obtain rfl : b9 = true := ready_dep hr 9 (by kernel_rfl)
      obtain ⟨V3, hst, hD⟩ := hF.c2 rfl rfl
      refine st_storeA rfl (by kernel_rfl) rfl 35 (.tmp 35) (.tmp 33) rfl (.pointer (some ⟨g, 0, none⟩)) x33 (by kernel_rfl) (by kernel_rfl) V3 hst ?_
      exact ⟨b0, b1, b2, b3, b4, b5, b6, true, b8, true, true, x32, x33, rfl, rfl, hF.m10 hD⟩
  · intro act9 V hJ
    obtain ⟨b0, b1, b2, b3, b4, b5, b6, b7, b8, b9, b10, x32, x33, he, rfl, hF⟩ := hJ
    have he : (#[true, true, true, true, true, true, true, true, true, true, true] : Array Bool) = #[b0, b1, b2, b3, b4, b5, b6, b7, b8, b9, b10] := he
    simp only [Array.mk.injEq, List.cons.injEq, and_true] at he
    obtain ⟨rfl, rfl, rfl, rfl, rfl, rfl, rfl, rfl, rfl, rfl, rfl⟩ := he
    simp only [cond_true]
    have HD := Lib.hid (hF.c3 rfl)
    obtain ⟨V7, eV⟩ : ∃ V7, V = V7 := ⟨_, rfl⟩
    rw [eV] at HD ⊢
    clear hF h0 HL0 HCA HAP eV
    obtain ⟨⟨a7, c7, hG7⟩, hX7⟩ := HD.out
    have HG7 := Lib.hid hG7
    have HX7 := Lib.hid hX7
    clear hG7 hX7 HD
    obtain ⟨d7, hd7⟩ : ∃ d7 : Hd, ({ d with ka := a7, kc := c7, A := d.A ++ [x] } : Hd) = d7 := ⟨_, rfl⟩
    have hA7 : d7.A = d.A ++ [x] := by rw [← hd7]
    have hB7 : d7.B = d.B := by rw [← hd7]
    rw [hd7] at HG7
    rw [← hA7] at HPX HGE HND HLA HPM
    clear hA7 hd7
    go_upto_region 8 with fail
    refine wp_region_class_tail (C := fun U => Gh Bd g d w d7 f U ∧ Bx U g0 (itA x) 24) 7 (by kernel_rfl) (by kernel_rfl) (⟨HG7.out.drew, HX7.out⟩) ?_
    simp only [List.take_succ_cons, List.take_zero, List.drop_succ_cons, List.drop_zero]
    refine gq_val (by kernel_rfl) (some 36) rfl (.pointer (some ⟨g, 0, none⟩)) (fun U hU => by kernel_rfl) ?_
    simp only [Act.put, List.setIfInBounds_toArray, List.set_cons_succ, List.set_cons_zero]
    refine gq_val (by kernel_rfl) (some 37) rfl (.pointer (some ⟨g, 0, none⟩)) (fun U hU => by kernel_rfl) ?_
    simp only [Act.put, List.setIfInBounds_toArray, List.set_cons_succ, List.set_cons_zero]
    refine gq_val (by kernel_rfl) (some 38) rfl (.pointer (some ⟨g, 1, none⟩)) (fun U hU => by kernel_rfl) ?_
    simp only [Act.put, List.setIfInBounds_toArray, List.set_cons_succ, List.set_cons_zero]
    refine gq_load (by kernel_rfl) (some 39) rfl 56 (.tmp 38) rfl ⟨g, 1, none⟩ (.map (some d7.B)) (by kernel_rfl) (fun U hU => hU.1.mem.ld1) ?_
    simp only [Act.put, List.setIfInBounds_toArray, List.set_cons_succ, List.set_cons_zero]
    refine gq_val (by kernel_rfl) (some 40) rfl (.pointer (some ⟨g0, 0, none⟩)) (fun U hU => by kernel_rfl) ?_
    simp only [Act.put, List.setIfInBounds_toArray, List.set_cons_succ, List.set_cons_zero]
    refine gq_load (by kernel_rfl) (some 41) rfl 3 (.tmp 40) rfl ⟨g0, 0, none⟩ (.int .i64 x.1) (by kernel_rfl) (fun U hU => ld_f0 hU.2) ?_
    simp only [Act.put, List.setIfInBounds_toArray, List.set_cons_succ, List.set_cons_zero]
    refine gq_val (by kernel_rfl) (some 42) rfl (.int .i64 n) (fun U hU => by kernel_rfl) ?_
    simp only [Act.put, List.setIfInBounds_toArray, List.set_cons_succ, List.set_cons_zero]
    apply wpQuiet_nil
    intro X hX
    obtain ⟨X2, hput, hmf, -, hgr⟩ := hX.1.mem.mp.put x.1 (n : Int)
    have HG8 := Lib.hid (hX.1.trans (Gh.map hX.1.mem (hX.1.base HHB.out HHW.out d7.B ⟨1, rfl⟩) hmf hgr))
    clear hX hmf hgr HG7 HX7
    refine gw_skip (by kernel_rfl) rfl X2 (ex_put 56 (.tmp 39) (.tmp 41) (.tmp 42) rfl (.map (some d7.B)) (.int .i64 x.1) (.int .i64 n) (by kernel_rfl) (by kernel_rfl) (by kernel_rfl) hput) ?_
    apply wpList_nil
    clear hput
    have HUP := Lib.hid (q_up (Bd := Bd) HG8.out.mem HPX.out (HG8.out.base HHB.out HHW.out) (HG8.out.size HHW.out) HND.out (by rw [HLA.out]; omega) (by rw [HLA.out]; omega) HGE.out)
    go_upto_region 9 with fail
    apply wp_region_lit
    refine gw_val (by kernel_rfl) (some 43) rfl (.pointer (some ⟨g, 0, none⟩)) (by kernel_rfl) ?_
    simp only [Act.put, List.setIfInBounds_toArray, List.set_cons_succ, List.set_cons_zero]
    refine gw_val (by kernel_rfl) (some 44) rfl (.int .i64 n) (by kernel_rfl) ?_
    simp only [Act.put, List.setIfInBounds_toArray, List.set_cons_succ, List.set_cons_zero]
    refine gw_call (by kernel_rfl) (some 45) rfl 26 #[.pointer (some ⟨g, 0, none⟩), .int .i64 n] (.tuple #[]) (fun w9 => ∃ T, Hm Bd g d7 X2 T w9 ∧ DnI T n) (by kernel_rfl) HUP.out (fun V4 hV4 => ?_)
    simp only [Act.put, List.setIfInBounds_toArray, List.set_cons_succ, List.set_cons_zero]
    apply wpList_nil
    obtain ⟨T, hT, hDn⟩ := hV4
    have HO : Hid (Ou9 Bd g d w M2 V4) := Lib.hid (by
      have ho := dn_last (n := n) (by rw [hT.len, HLA.out]; exact Nat.le_refl _) hDn
      obtain ⟨pm, f4, hG4, hp4⟩ := hT
      exact ⟨_, _, HG8.out.trans hG4, hp4, ho, pm.trans HPM.out⟩)
    clear hT hDn HUP HG8
    go_upto_region 10 with fail
    apply wp_region_lit
    refine gw_val (by kernel_rfl) (some 4) rfl (.bool true) (by kernel_rfl) ?_
    simp only [Act.put, List.setIfInBounds_toArray, List.set_cons_succ, List.set_cons_zero]
    apply wpList_nil
    go_wp2_with fail
    go_ret
    exact ⟨rfl, HO.out⟩
theorem q_push {Bd g : Nat} {d : Hd} {f : Int → Option Int} {w : World} (I : In9 Bd g d f w) (x : It) {M : List It} (hp : d.A.Perm M) (hln : d.A.length + 1 ≤ 90000) : Calls Try.prog 15 #[.pointer (some ⟨g, 0, none⟩), .agg (itA x)] w fun e w' => e = .returned (.bool (insM M x).2) ∧ Ou9 Bd g d w (insM M x).1 w' := by
  cases hf : f x.1 with
  | some n => exact q_push0 I x hp hf
  | none => exact q_push1 I x hp hf hln
end Go.Proofs.Ytepdibnbnhkpnaa
