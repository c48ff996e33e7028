/-
  The bytes of a list of fields, the program's and the reference's: contracts.
-/
import Derived.Test.YtebnlklodokhkaaDoorLX
import Derived.Test.YtebnlklodokhkaaDoorWM
namespace Go.Proofs.YtebnlklodokhkaaDoor.Lg
open Go.RowKit
set_option linter.unusedSimpArgs false
set_option linter.unusedVariables false

/-- The bytes of a message. -/
def msg (P : List Fld) : List Int := P.flatMap encF
theorem msg_app (P Q : List Fld) : msg (P ++ Q) = msg P ++ msg Q := by simp [msg]
theorem msg_take (P : List Fld) (j : Nat) : (msg (P.take j)).length ≤ (msg P).length := by
  conv => rhs; rw [← List.take_append_drop j P, msg_app, List.length_append]
  omega
theorem encI_len_ge (num kind val : Int) (X : List Int) : X.length ≤ (encI num kind val X).length := by
  unfold encI
  rw [List.length_append, List.length_append]
  omega
abbrev fdA (x : Fld) (b : Option Addr) (d : Nat) : Array Value := #[.int .i64 x.num, .int .i64 x.kind, .int .u64 x.val, .slice b x.bytes.length d]
abbrev Fp := Fld × Option Addr × Nat
/-- Fields in a block of their own. -/
def FsD (w : World) (g : Nat) (P : List Fp) : Prop := ∀ (i : Nat) (p : Fp), P[i]? = some p → w.rangeAt g (0 + i * 4) (fdA p.1 p.2.1 p.2.2).toList ∧ g < w.heap.size ∧ Sl w p.2.1 p.2.2 p.1.bytes
theorem range_below {w w' : World} {g o : Nat} {vs : List Value} (h : w.rangeAt g o vs) (hg : g < w.heap.size) (hb : Below w.heap.size w w') : w'.rangeAt g o vs := fun j v hj => (hb.cell (p := ⟨g, o + j, none⟩) hg).trans (h j v hj)
theorem load_fd {w : World} {g o : Nat} {x : Fld} {b : Option Addr} {d : Nat} (h : w.rangeAt g o (fdA x b d).toList) : (Instr.loadAt 56 (.pointer (some ⟨g, o, none⟩))).run Tryd.prog w = .ok (.agg (fdA x b d)) w :=
  run_loadAt_mid w g o 56 _ _ h Tryd.underlying56 rfl (by kernel_rfl)
theorem idx_fd (b off n c k : Nat) (hk : k < n) (V : World) (ρ : Operand → Value) (o : Oper) {x y : Operand} (ho : o.op = .indexAddr 59 x y) (hx : ρ x = .slice (some ⟨b, off, none⟩) n c) (hy : ρ y = .int .i64 k) : (execOp ρ o).run Tryd.prog V = .ok (.value (.pointer (some ⟨b, off + k * 4, none⟩))) V := by
  have hs : (sizeOf (Tryd.prog.elem 59)).run Tryd.prog V = .ok 4 V := by kernel_rfl
  have hlm : (k : Int) < (n : Int) := by omega
  unfold execOp
  simp only [ho, hx, hy]
  go_simp
theorem fdA_one (x : Fld) (b : Option Addr) (d : Nat) : (fdA x b d).all (·.oneCell') = true := by simp [Value.oneCell']
def zFd : Fld := ⟨0, 0, 0, []⟩
theorem new_fd (V : World) (x : Fld) (b : Option Addr) (d : Nat) : ∃ V2, (Instr.storeAt 56 (.pointer (some ⟨V.heap.size, 0, none⟩)) (.agg (fdA x b d))).run Tryd.prog (V.alloc (.cells (fdA zFd none 0) 56)) = .ok () V2 ∧ Below V.heap.size V V2 ∧ Bx V2 V.heap.size (fdA x b d) 56 :=
  have hb : Bx (V.alloc (.cells (fdA zFd none 0) 56)) V.heap.size (fdA zFd none 0) 56 := heap_alloc_last V _
  ⟨_, run_store_all hb rfl (fdA_one x b d) (by kernel_rfl), belowRow ((Below.refl _ V).alloc (Nat.le_refl _) _) (Nat.le_refl _) _, hb.set⟩
theorem load_fdb {w : World} {g t : Nat} {x : Fld} {b : Option Addr} {d : Nat} (h : Bx w g (fdA x b d) t) : (Instr.loadAt 56 (.pointer (some ⟨g, 0, none⟩))).run Tryd.prog w = .ok (.agg (fdA x b d)) w :=
  load_fd fun j v hv => by
    rw [cell_of_row w g _ _ _ (0, 0) h]
    simpa using hv
set_option maxRecDepth 100000 in
set_option maxHeartbeats 8000000 in
theorem q_message (g0 c : Nat) (P : List Fp) (w : World) (hF : FsD w g0 P) (hv : ∀ p, p ∈ P → Vfi p.1.num p.1.kind p.1.val p.1.bytes.length ∧ W64 p.1.val) (hl : (msg (P.map Prod.fst)).length ≤ 900000) (hn0 : P.length ≤ 100000) :
    Calls Tryd.prog 21 #[.slice (some ⟨g0, 0, none⟩) P.length c] w fun e w' => ∃ v, e = .returned v ∧ Own w' w.heap.size v (msg (P.map Prod.fst)) ∧ Below w.heap.size w w' := by
  have HF := Lib.hid hF
  have HV := Lib.hid hv
  have HL := Lib.hid hl
  obtain ⟨M, hM⟩ : ∃ M, P.map Prod.fst = M := ⟨_, rfl⟩
  have HM := Lib.hid hM
  have HPM : Hid (M.length = P.length) := Lib.hid (by rw [← hM, List.length_map])
  rw [hM] at HL ⊢
  obtain ⟨n, hn⟩ : ∃ n, P.length = n := ⟨_, rfl⟩
  have HN := Lib.hid hn
  rw [hn] at hn0 HPM ⊢
  clear hF hv hl hM hn
  go_enter Tryd.func21, Tryd.ntmps21
  go_upto_region 1 with fail
  apply wp_region_lit
  refine gw_val (by kernel_rfl) (some 3) rfl (.slice none 0 0) (by kernel_rfl) ?_
  simp only [pu1, pu2, pu3, pu4]
  apply wpList_nil
  go_upto_region 2 with fail
  apply wp_region_lit
  refine gw_val (by kernel_rfl) (some 6) rfl (.slice (some ⟨g0, 0, none⟩) n c) (by kernel_rfl) ?_
  simp only [pu1, pu2, pu3, pu4]
  refine gw_val (by kernel_rfl) (some 7) rfl (.int .i64 n) (by kernel_rfl) ?_
  simp only [pu1, pu2, pu3, pu4]
  refine gw_val (by kernel_rfl) (some 8) rfl (.int .i64 0) (by kernel_rfl) ?_
  simp only [pu1, pu2, pu3, pu4]
  apply wpList_nil
  go_wp2_with fail
  go_loopg [3, 8] n (fun gg s3 s8 wx => ∃ (j : Nat) (b : Option Addr) (k d : Nat), s3 = .slice b k d ∧ s8 = .int .i64 j ∧ j ≤ n ∧ Hid (Own wx w.heap.size (.slice b k d) (msg (M.take j))) ∧ Hid (Below w.heap.size w wx) ∧ n - j = gg)
  case atStart => exact ⟨0, none, 0, 0, rfl, rfl, by omega, Lib.hid (Own.nil _ _), Lib.hid (Below.refl _ _), by omega⟩
  case round =>
    obtain ⟨j, b, k, d, rfl, rfl, hj, HO, HB, hg⟩ := hrel
    have HG := Lib.hid hg
    clear hg
    by_cases hlt : j < n
    · skip
      have hjP : j < P.length := by rw [HN.out]; exact hlt
      obtain ⟨hra, hglt, hsl⟩ := HF.out j P[j] (List.getElem?_eq_getElem hjP)
      have hva := HV.out P[j] (List.getElem_mem hjP)
      have htk : msg (M.take (j + 1)) = msg (M.take j) ++ encF P[j].1 := by
        rw [← HM.out, List.take_succ_eq_append_getElem (by rw [List.length_map]; exact hjP), msg_app, List.getElem_map]
        simp [msg]
      have hle := msg_take M (j + 1)
      rw [htk, List.length_append] at hle
      generalize P[j] = pj at *
      obtain ⟨x, ba, bc⟩ := pj
      dsimp only at hle htk hva hsl hra
      obtain ⟨b2, d2, e2, hs2, hc2⟩ := HO.out.sl
      simp only [Value.slice.injEq] at e2
      obtain ⟨rfl, rfl, rfl⟩ := e2
      have HLD := Lib.hid (load_fd (range_below hra hglt HB.out))
      obtain ⟨V2, hst, hb2, hbx⟩ := new_fd wr x ba bc
      have hB2 := HB.out.trans (hb2.mono HB.out.size)
      have hll := HL.out
      have CF := code_wappend b d (msg (M.take j)) x.num x.kind x.val ba bc x.bytes V2 (by omega) (by have := encI_len_ge x.num x.kind x.val x.bytes; unfold encF at hle; omega) (sl_below hs2 hb2) (sl_below hsl hB2) hva.1 hva.2
      have HTK := Lib.hid htk
      have HB2 := Lib.hid hB2
      have HLT := Lib.hid hlt
      clear hra hglt hsl hva hle hs2 hc2 HO hB2 hll htk hjP hb2 HB hlt
      generalize msg (M.take j) = L at *
      go_upto_region 3 with fail
      apply wp_region_lit
      refine gw_val (by kernel_rfl) (some 9) rfl (.bool true) (lss_n rfl (j) (n) (decide_eq_true (by have := HLT.out; omega)) (by kernel_rfl) (by kernel_rfl) _) ?_
      simp only [pu1, pu2, pu3, pu4]
      apply wpList_nil
      go_upto_region 4 with fail
      apply wp_region_lit
      refine gw_val (by kernel_rfl) (some 10) rfl (.pointer (some ⟨g0, 0 + j * 4, none⟩)) (idx_fd g0 0 n c j HLT.out _ _ _ rfl (by kernel_rfl) (by kernel_rfl)) ?_
      simp only [pu1, pu2, pu3, pu4]
      refine gw_load (by kernel_rfl) (some 11) rfl 56 (.tmp 10) rfl ⟨g0, 0 + j * 4, none⟩ (.agg (fdA x ba bc)) (by kernel_rfl) (HLD.out) ?_
      simp only [pu1, pu2, pu3, pu4]
      refine run_to rfl (some 5) rfl (.pointer (some ⟨wr.heap.size, 0, none⟩)) (wr.alloc (.cells (fdA zFd none 0) 56)) (by kernel_rfl) ?_
      simp only [pu1, pu2, pu3, pu4]
      refine gw_store (by kernel_rfl) rfl 56 (.tmp 5) (.tmp 11) rfl (.pointer (some ⟨wr.heap.size, 0, none⟩)) (.agg (fdA x ba bc)) (by kernel_rfl) (by kernel_rfl) (V2) (hst) ?_
      apply wpList_nil
      obtain ⟨g5, hg5⟩ : ∃ g5, wr.heap.size = g5 := ⟨_, rfl⟩
      rw [hg5] at hbx ⊢
      clear hst hg5 HLD
      go_upto_region 5 with fail
      apply wp_region_lit
      refine gw_val (by kernel_rfl) (some 13) rfl (.slice b L.length d) (by kernel_rfl) ?_
      simp only [pu1, pu2, pu3, pu4]
      refine gw_load (by kernel_rfl) (some 14) rfl 56 (.tmp 5) rfl ⟨g5, 0, none⟩ (.agg (fdA x ba bc)) (by kernel_rfl) (load_fdb hbx) ?_
      simp only [pu1, pu2, pu3, pu4]
      refine gw_callE (by kernel_rfl) (some 15) rfl 37 #[.slice b L.length d, .agg (fdA x ba bc)] (fun v w' => ∃ u, v = .tuple #[u, .int .i64 0] ∧ Own w' V2.heap.size u (L ++ encI x.num x.kind x.val x.bytes) ∧ Below V2.heap.size V2 w') (by kernel_rfl) (CF.mono fun e w' q => by obtain ⟨u, he, h⟩ := q; exact ⟨_, he, u, rfl, h⟩) (fun v V3 hq => ?_)
      obtain ⟨u, rfl, hO3, hb3⟩ := hq
      obtain ⟨b3, d3, rfl, -, -⟩ := hO3.sl
      simp only [pu1, pu2, pu3, pu4]
      refine gw_val (by kernel_rfl) (some 12) rfl (.tuple #[.slice b3 (L ++ encI x.num x.kind x.val x.bytes).length d3, .int .i64 0]) (by kernel_rfl) ?_
      simp only [pu1, pu2, pu3, pu4]
      refine gw_val (by kernel_rfl) (some 16) rfl (.slice b3 (L ++ encI x.num x.kind x.val x.bytes).length d3) (by kernel_rfl) ?_
      simp only [pu1, pu2, pu3, pu4]
      refine gw_val (by kernel_rfl) (some 17) rfl (.int .i64 0) (by kernel_rfl) ?_
      simp only [pu1, pu2, pu3, pu4]
      refine gw_val (by kernel_rfl) (some 3) rfl (.slice b3 (L ++ encI x.num x.kind x.val x.bytes).length d3) (by kernel_rfl) ?_
      simp only [pu1, pu2, pu3, pu4]
      apply wpList_nil
      have HO3 := Lib.hid (hO3.base (HB2.out.size))
      have HB3 := Lib.hid (HB2.out.trans (hb3.mono HB2.out.size))
      clear hO3 hb3 hbx CF
      go_upto_region 6 with fail
      apply wp_region_lit
      refine gw_val (by kernel_rfl) (some 18) rfl (.int .i64 (j + 1 : Nat)) (add_nat rfl j 1 (by have := HLT.out; omega) (by kernel_rfl) (by kernel_rfl) _) ?_
      simp only [pu1, pu2, pu3, pu4]
      refine gw_val (by kernel_rfl) (some 8) rfl (.int .i64 (j + 1 : Nat)) (by kernel_rfl) ?_
      simp only [pu1, pu2, pu3, pu4]
      apply wpList_nil
      go_wp2_with fail
      go_roundg (n - (j + 1))
      case measure => have := HG.out; have := HLT.out; omega
      case rel => exact ⟨j + 1, b3, _, d3, rfl, rfl, HLT.out, Lib.hid (by rw [HTK.out]; first | exact HO3.out | (have := HO3.out; rw [List.length_append] at this; exact this)), HB3, rfl⟩
    · skip
      have HO2 := Lib.hid (by have := HO.out; rwa [List.take_of_length_le (by rw [HPM.out]; omega)] at this : Own wr w.heap.size (.slice b k d) (msg M))
      clear HO
      go_upto_region 3 with fail
      apply wp_region_lit
      refine gw_val (by kernel_rfl) (some 9) rfl (.bool false) (lss_n rfl (j) (n) (decide_eq_false (by omega)) (by kernel_rfl) (by kernel_rfl) _) ?_
      simp only [pu1, pu2, pu3, pu4]
      apply wpList_nil
      go_upto_region 7 with fail
      apply wp_region_lit
      refine gw_val (by kernel_rfl) (some 19) rfl (.slice b k d) (by kernel_rfl) ?_
      simp only [pu1, pu2, pu3, pu4]
      refine gw_val (by kernel_rfl) (some 2) rfl (.slice b k d) (by kernel_rfl) ?_
      simp only [pu1, pu2, pu3, pu4]
      apply wpList_nil
      go_wp2_with fail
      go_ret
      exact ⟨_, rfl, HO2.out, HB.out⟩
set_option maxRecDepth 100000 in
set_option maxHeartbeats 8000000 in
theorem ref_message (g0 c : Nat) (P : List Fp) (w : World) (hF : FsD w g0 P) (hv : ∀ p, p ∈ P → Vfi p.1.num p.1.kind p.1.val p.1.bytes.length ∧ W64 p.1.val) (hl : (msg (P.map Prod.fst)).length ≤ 900000) (hn0 : P.length ≤ 100000) :
    Calls Tryd.prog 23 #[.slice (some ⟨g0, 0, none⟩) P.length c] w fun e w' => ∃ v, e = .returned v ∧ Own w' w.heap.size v (msg (P.map Prod.fst)) ∧ Below w.heap.size w w' := by
  have HF := Lib.hid hF
  have HV := Lib.hid hv
  have HL := Lib.hid hl
  obtain ⟨M, hM⟩ : ∃ M, P.map Prod.fst = M := ⟨_, rfl⟩
  have HM := Lib.hid hM
  have HPM : Hid (M.length = P.length) := Lib.hid (by rw [← hM, List.length_map])
  rw [hM] at HL ⊢
  obtain ⟨n, hn⟩ : ∃ n, P.length = n := ⟨_, rfl⟩
  have HN := Lib.hid hn
  rw [hn] at hn0 HPM ⊢
  clear hF hv hl hM hn
  go_enter Tryd.func23, Tryd.ntmps23
  go_upto_region 1 with fail
  apply wp_region_lit
  refine gw_val (by kernel_rfl) (some 3) rfl (.slice none 0 0) (by kernel_rfl) ?_
  simp only [pu1, pu2, pu3, pu4]
  apply wpList_nil
  go_upto_region 2 with fail
  apply wp_region_lit
  refine gw_val (by kernel_rfl) (some 6) rfl (.slice (some ⟨g0, 0, none⟩) n c) (by kernel_rfl) ?_
  simp only [pu1, pu2, pu3, pu4]
  refine gw_val (by kernel_rfl) (some 7) rfl (.int .i64 n) (by kernel_rfl) ?_
  simp only [pu1, pu2, pu3, pu4]
  refine gw_val (by kernel_rfl) (some 8) rfl (.int .i64 0) (by kernel_rfl) ?_
  simp only [pu1, pu2, pu3, pu4]
  apply wpList_nil
  go_wp2_with fail
  go_loopg [3, 8] n (fun gg s3 s8 wx => ∃ (j : Nat) (b : Option Addr) (k d : Nat), s3 = .slice b k d ∧ s8 = .int .i64 j ∧ j ≤ n ∧ Hid (Own wx w.heap.size (.slice b k d) (msg (M.take j))) ∧ Hid (Below w.heap.size w wx) ∧ n - j = gg)
  case atStart => exact ⟨0, none, 0, 0, rfl, rfl, by omega, Lib.hid (Own.nil _ _), Lib.hid (Below.refl _ _), by omega⟩
  case round =>
    obtain ⟨j, b, k, d, rfl, rfl, hj, HO, HB, hg⟩ := hrel
    have HG := Lib.hid hg
    clear hg
    by_cases hlt : j < n
    · skip
      have hjP : j < P.length := by rw [HN.out]; exact hlt
      obtain ⟨hra, hglt, hsl⟩ := HF.out j P[j] (List.getElem?_eq_getElem hjP)
      have hva := HV.out P[j] (List.getElem_mem hjP)
      have htk : msg (M.take (j + 1)) = msg (M.take j) ++ encF P[j].1 := by
        rw [← HM.out, List.take_succ_eq_append_getElem (by rw [List.length_map]; exact hjP), msg_app, List.getElem_map]
        simp [msg]
      have hle := msg_take M (j + 1)
      rw [htk, List.length_append] at hle
      generalize P[j] = pj at *
      obtain ⟨x, ba, bc⟩ := pj
      dsimp only at hle htk hva hsl hra
      obtain ⟨b2, d2, e2, hs2, hc2⟩ := HO.out.sl
      simp only [Value.slice.injEq] at e2
      obtain ⟨rfl, rfl, rfl⟩ := e2
      have HLD := Lib.hid (load_fd (range_below hra hglt HB.out))
      obtain ⟨V2, hst, hb2, hbx⟩ := new_fd wr x ba bc
      have hB2 := HB.out.trans (hb2.mono HB.out.size)
      have hll := HL.out
      have CF := ref_field b d (msg (M.take j)) x.num x.kind x.val ba bc x.bytes V2 (by omega) (by have := encI_len_ge x.num x.kind x.val x.bytes; unfold encF at hle; omega) (sl_below hs2 hb2) (sl_below hsl hB2) hva.1 hva.2
      have HTK := Lib.hid htk
      have HB2 := Lib.hid hB2
      have HLT := Lib.hid hlt
      clear hra hglt hsl hva hle hs2 hc2 HO hB2 hll htk hjP hb2 HB hlt
      generalize msg (M.take j) = L at *
      go_upto_region 3 with fail
      apply wp_region_lit
      refine gw_val (by kernel_rfl) (some 9) rfl (.bool true) (lss_n rfl (j) (n) (decide_eq_true (by have := HLT.out; omega)) (by kernel_rfl) (by kernel_rfl) _) ?_
      simp only [pu1, pu2, pu3, pu4]
      apply wpList_nil
      go_upto_region 4 with fail
      apply wp_region_lit
      refine gw_val (by kernel_rfl) (some 10) rfl (.pointer (some ⟨g0, 0 + j * 4, none⟩)) (idx_fd g0 0 n c j HLT.out _ _ _ rfl (by kernel_rfl) (by kernel_rfl)) ?_
      simp only [pu1, pu2, pu3, pu4]
      refine gw_load (by kernel_rfl) (some 11) rfl 56 (.tmp 10) rfl ⟨g0, 0 + j * 4, none⟩ (.agg (fdA x ba bc)) (by kernel_rfl) (HLD.out) ?_
      simp only [pu1, pu2, pu3, pu4]
      refine run_to rfl (some 5) rfl (.pointer (some ⟨wr.heap.size, 0, none⟩)) (wr.alloc (.cells (fdA zFd none 0) 56)) (by kernel_rfl) ?_
      simp only [pu1, pu2, pu3, pu4]
      refine gw_store (by kernel_rfl) rfl 56 (.tmp 5) (.tmp 11) rfl (.pointer (some ⟨wr.heap.size, 0, none⟩)) (.agg (fdA x ba bc)) (by kernel_rfl) (by kernel_rfl) (V2) (hst) ?_
      apply wpList_nil
      obtain ⟨g5, hg5⟩ : ∃ g5, wr.heap.size = g5 := ⟨_, rfl⟩
      rw [hg5] at hbx ⊢
      clear hst hg5 HLD
      go_upto_region 5 with fail
      apply wp_region_lit
      refine gw_val (by kernel_rfl) (some 13) rfl (.slice b L.length d) (by kernel_rfl) ?_
      simp only [pu1, pu2, pu3, pu4]
      refine gw_load (by kernel_rfl) (some 14) rfl 56 (.tmp 5) rfl ⟨g5, 0, none⟩ (.agg (fdA x ba bc)) (by kernel_rfl) (load_fdb hbx) ?_
      simp only [pu1, pu2, pu3, pu4]
      refine gw_callE (by kernel_rfl) (some 15) rfl 42 #[.slice b L.length d, .agg (fdA x ba bc)] (fun v w' => ∃ u, v = .tuple #[u, .int .i64 0] ∧ Own w' V2.heap.size u (L ++ encI x.num x.kind x.val x.bytes) ∧ Below V2.heap.size V2 w') (by kernel_rfl) (CF.mono fun e w' q => by obtain ⟨u, he, h⟩ := q; exact ⟨_, he, u, rfl, h⟩) (fun v V3 hq => ?_)
      obtain ⟨u, rfl, hO3, hb3⟩ := hq
      obtain ⟨b3, d3, rfl, -, -⟩ := hO3.sl
      simp only [pu1, pu2, pu3, pu4]
      refine gw_val (by kernel_rfl) (some 12) rfl (.tuple #[.slice b3 (L ++ encI x.num x.kind x.val x.bytes).length d3, .int .i64 0]) (by kernel_rfl) ?_
      simp only [pu1, pu2, pu3, pu4]
      refine gw_val (by kernel_rfl) (some 16) rfl (.slice b3 (L ++ encI x.num x.kind x.val x.bytes).length d3) (by kernel_rfl) ?_
      simp only [pu1, pu2, pu3, pu4]
      refine gw_val (by kernel_rfl) (some 17) rfl (.int .i64 0) (by kernel_rfl) ?_
      simp only [pu1, pu2, pu3, pu4]
      refine gw_val (by kernel_rfl) (some 3) rfl (.slice b3 (L ++ encI x.num x.kind x.val x.bytes).length d3) (by kernel_rfl) ?_
      simp only [pu1, pu2, pu3, pu4]
      apply wpList_nil
      have HO3 := Lib.hid (hO3.base (HB2.out.size))
      have HB3 := Lib.hid (HB2.out.trans (hb3.mono HB2.out.size))
      clear hO3 hb3 hbx CF
      go_upto_region 6 with fail
      apply wp_region_lit
      refine gw_val (by kernel_rfl) (some 18) rfl (.int .i64 (j + 1 : Nat)) (add_nat rfl j 1 (by have := HLT.out; omega) (by kernel_rfl) (by kernel_rfl) _) ?_
      simp only [pu1, pu2, pu3, pu4]
      refine gw_val (by kernel_rfl) (some 8) rfl (.int .i64 (j + 1 : Nat)) (by kernel_rfl) ?_
      simp only [pu1, pu2, pu3, pu4]
      apply wpList_nil
      go_wp2_with fail
      go_roundg (n - (j + 1))
      case measure => have := HG.out; have := HLT.out; omega
      case rel => exact ⟨j + 1, b3, _, d3, rfl, rfl, HLT.out, Lib.hid (by rw [HTK.out]; first | exact HO3.out | (have := HO3.out; rw [List.length_append] at this; exact this)), HB3, rfl⟩
    · skip
      have HO2 := Lib.hid (by have := HO.out; rwa [List.take_of_length_le (by rw [HPM.out]; omega)] at this : Own wr w.heap.size (.slice b k d) (msg M))
      clear HO
      go_upto_region 3 with fail
      apply wp_region_lit
      refine gw_val (by kernel_rfl) (some 9) rfl (.bool false) (lss_n rfl (j) (n) (decide_eq_false (by omega)) (by kernel_rfl) (by kernel_rfl) _) ?_
      simp only [pu1, pu2, pu3, pu4]
      apply wpList_nil
      go_upto_region 7 with fail
      apply wp_region_lit
      refine gw_val (by kernel_rfl) (some 19) rfl (.slice b k d) (by kernel_rfl) ?_
      simp only [pu1, pu2, pu3, pu4]
      refine gw_val (by kernel_rfl) (some 2) rfl (.slice b k d) (by kernel_rfl) ?_
      simp only [pu1, pu2, pu3, pu4]
      apply wpList_nil
      go_wp2_with fail
      go_ret
      exact ⟨_, rfl, HO2.out, HB.out⟩
end Go.Proofs.YtebnlklodokhkaaDoor.Lg
