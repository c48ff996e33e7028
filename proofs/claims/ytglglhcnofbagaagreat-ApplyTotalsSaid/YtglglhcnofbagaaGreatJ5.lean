/-
  The reference's Message: contract. The reference's follow and Rune: contracts. The reference's Runes and IsMemo: contracts. The reference's IsName and follow: contracts.
-/
import Derived.Test.YtglglhcnofbagaaGreatJ3
import Derived.Test.YtglglhcnofbagaaGreatJ4
namespace Go.Proofs.YtglglhcnofbagaaGreat
attribute [local irreducible] wpList wpQuiet
open Go.RowKit
set_option linter.unusedSimpArgs false
set_option linter.unusedVariables false

/-- The bytes of a message. -/
def msg (P : List Fld) : List Int := P.flatMap encF
theorem msg_app (P Q : List Fld) : msg (P ++ Q) = msg P ++ msg Q := by simp [msg]
theorem msg_take (P : List Fld) (j : Nat) : (msg (P.take j)).length ≤ (msg P).length := by
 conv => rhs; rw [← List.take_append_drop j P, msg_app, List.length_append]
 omega
theorem encI_len_ge (num kind val : Int) (X : List Int) : X.length ≤ (encI num kind val X).length := by
 unfold encI
 rw [List.length_append, List.length_append]
 omega
abbrev fdA (x : Fld) (b : Option Addr) (d : Nat) : Array Value := #[.int .i64 x.num, .int .i64 x.kind, .int .u64 x.val, .slice b x.bytes.length d]
theorem fd_range {w : World} {g o : Nat} {x : Fld} {b : Option Addr} {d : Nat} (h : Box w g o x.num x.kind x.val b x.bytes.length d) : w.rangeAt g o (fdA x b d).toList := fun j v hj => by
 obtain ⟨h0, h1, h2, h3⟩ := h
 have hj4 : j < 4 := by
  have := (List.getElem?_eq_some_iff.1 hj).1
  simpa using this
 rcases (show j = 0 ∨ j = 1 ∨ j = 2 ∨ j = 3 by omega) with rfl | rfl | rfl | rfl
 ·simp at hj; rw [← hj]; exact h0
 ·simp at hj; rw [← hj]; exact h1
 ·simp at hj; rw [← hj]; exact h2
 ·simp at hj; rw [← hj]; exact h3
theorem load_fd {w : World} {g o : Nat} {x : Fld} {b : Option Addr} {d : Nat} (h : w.rangeAt g o (fdA x b d).toList) : (Instr.loadAt 91 (.pointer (some ⟨g, o, none⟩))).run Tryz.prog w = .ok (.agg (fdA x b d)) w :=
 run_loadAt_mid w g o 91 _ _ h Tryz.underlying91 rfl (by kernel_rfl)
theorem idx_fd (b off n c k : Nat) (hk : k < n) (V : World) (ρ : Operand → Value) (o : Oper) {x y : Operand} (ho : o.op = .indexAddr 86 x y) (hx : ρ x = .slice (some ⟨b, off, none⟩) n c) (hy : ρ y = .int .i64 k) : (execOp ρ o).run Tryz.prog V = .ok (.value (.pointer (some ⟨b, off + k * 4, none⟩))) V := by
 have hs : (sizeOf (Tryz.prog.elem 86)).run Tryz.prog V = .ok 4 V := by kernel_rfl
 have hlm : (k : Int) < (n : Int) := by omega
 unfold execOp
 simp only [ho, hx, hy]
 go_simp
theorem fdA_one (x : Fld) (b : Option Addr) (d : Nat) : (fdA x b d).all (·.oneCell') = true := by simp [Value.oneCell']
theorem new_fd (V : World) (x : Fld) (b : Option Addr) (d : Nat) : ∃ V2, (Instr.storeAt 91 (.pointer (some ⟨V.heap.size, 0, none⟩)) (.agg (fdA x b d))).run Tryz.prog (V.alloc (.cells (fdA zeroF none 0) 91)) = .ok () V2 ∧ Below V.heap.size V V2 ∧ Bx V2 V.heap.size (fdA x b d) 91 :=
 have hb : Bx (V.alloc (.cells (fdA zeroF none 0) 91)) V.heap.size (fdA zeroF none 0) 91 := heap_alloc_last V _
 ⟨_, run_store_all hb rfl (fdA_one x b d) (by kernel_rfl), belowRow ((Below.refl _ V).alloc (Nat.le_refl _) _) (Nat.le_refl _) _, hb.set⟩
theorem load_fdb {w : World} {g t : Nat} {x : Fld} {b : Option Addr} {d : Nat} (h : Bx w g (fdA x b d) t) : (Instr.loadAt 91 (.pointer (some ⟨g, 0, none⟩))).run Tryz.prog w = .ok (.agg (fdA x b d)) w :=
 load_fd fun j v hv => by
  rw [cell_of_row w g _ _ _ (0, 0) h]
  simpa using hv
set_option maxRecDepth 100000 in
set_option maxHeartbeats 8000000 in
theorem ref_message (a : Option Addr) (c : Nat) (P : List (Fld × Value)) (w : World) (hF : Fs w a P) (hv : ∀ p, p ∈ P → Vfi p.1.num p.1.kind p.1.val p.1.bytes.length ∧ W64 p.1.val) (hl : (msg (P.map Prod.fst)).length ≤ 900000) (hn0 : P.length ≤ 100000) :
  Calls Tryz.prog 44 #[.slice a P.length c] w fun e w' => ∃ v, e = .returned v ∧ Own w' w.heap.size v (msg (P.map Prod.fst)) ∧ Below w.heap.size w w' := by
 have HF := Lib.hid hF
 have HV := Lib.hid hv
 have HL := Lib.hid hl
 obtain ⟨M, hM⟩ : ∃ M, P.map Prod.fst = M := ⟨_, rfl⟩
 have HM := Lib.hid hM
 have HPM : Hid (M.length = P.length) := Lib.hid (by rw [← hM, List.length_map])
 rw [hM] at HL ⊢
 obtain ⟨n, hn⟩ : ∃ n, P.length = n := ⟨_, rfl⟩
 have HN := Lib.hid hn
 rw [hn] at hn0 HPM ⊢
 clear hF hv hl hM hn
 go_enter Tryz.func44, Tryz.ntmps44
 go_upto_region 1 with fail
 refine wl <| gz1 (.slice none 0 0) <| wn ?_
 simp only [pu]
 go_upto_region 2 with fail
 refine wl <| gz3 (.slice a n c) (.int .i64 n) (.int .i64 0) <| wn ?_
 simp only [pu]
 go_wp2_with fail
 go_loopg [3, 8] n (fun gg s3 s8 wx => ∃ (j : Nat) (b : Option Addr) (k d : Nat), s3 = .slice b k d ∧ s8 = .int .i64 j ∧ j ≤ n ∧ Hid (Own wx w.heap.size (.slice b k d) (msg (M.take j))) ∧ Hid (Below w.heap.size w wx) ∧ n - j = gg)
 case atStart => exact ⟨0, none, 0, 0, rfl, rfl, by omega, Lib.hid (Own.nil _ _), Lib.hid (Below.refl _ _), by omega⟩
 case round =>
  obtain ⟨j, b, k, d, rfl, rfl, hj, HO, HB, hg⟩ := hrel
  by_cases hlt : j < n
  ·have HD : Hid (decide ((j : Int) < (n : Int)) = true) := Lib.hid dT
   have HG : Hid (n - (j + 1) = gk - 1 ∧ 0 < gk ∧ j + 1 ≤ n) := Lib.hid ⟨by omega, by omega, by omega⟩
   have hjP : j < P.length := by rw [HN.out]; exact hlt
   obtain ⟨b0, off, ba, bc, rfl, hp2, hsl, hbox⟩ := HF.out j P[j] (List.getElem?_eq_getElem hjP)
   have hva := HV.out P[j] (List.getElem_mem hjP)
   have htk : msg (M.take (j + 1)) = msg (M.take j) ++ encF P[j].1 := by
    rw [← HM.out, List.take_succ_eq_append_getElem (by rw [List.length_map]; exact hjP), msg_app, List.getElem_map]
    simp [msg]
   have hle := msg_take M (j + 1)
   rw [htk, List.length_append] at hle
   generalize P[j].1 = x at *
   obtain ⟨b2, d2, e2, hs2, hc2⟩ := HO.out.sl
   simp only [Value.slice.injEq] at e2
   obtain ⟨rfl, rfl, rfl⟩ := e2
   have hLD := load_fd (fd_range (hbox.below HB.out))
   obtain ⟨V2, hst, hb2, hbx⟩ := new_fd wr x ba bc
   have hB2 := HB.out.trans (hb2.mono HB.out.size)
   have hll := HL.out
   have CF := ref_field b d (msg (M.take j)) x.num x.kind x.val ba bc x.bytes V2 (by omega) (by have := encI_len_ge x.num x.kind x.val x.bytes; unfold encF at hle; omega) (sl_below hs2 hb2) (sl_below hsl hB2) hva.1 hva.2
   have HTK := Lib.hid htk
   have HB2 := Lib.hid hB2
   clear hp2 hsl hbox hva hle hs2 hc2 HO hB2 hll htk hjP hb2 HB hg
   generalize msg (M.take j) = L at *
   go_upto_region 3 with fail
   refine wl <| gzw (.bool true) (lss_n rfl j n HD.out) <| wn ?_
   simp only [pu]
   go_upto_region 4 with fail
   refine wl <| gzv (.pointer (some ⟨b0, off + j * 4, none⟩)) (idx_fd b0 off n c j hlt _ _ _ rfl (by kernel_rfl) (by kernel_rfl)) <| gzl rfl ⟨b0, off + j * 4, none⟩ (.agg (fdA x ba bc)) hLD ?_
   simp only [pu]
   refine run_to rfl (some 5) rfl (.pointer (some ⟨wr.heap.size, 0, none⟩)) (wr.alloc (.cells (fdA zeroF none 0) 91)) (by kernel_rfl) ?_
   simp only [pu]
   refine gzs rfl hst <| wn ?_
   obtain ⟨g5, hg5⟩ : ∃ g5, wr.heap.size = g5 := ⟨_, rfl⟩
   rw [hg5] at hbx ⊢
   clear hst hg5 hLD
   go_upto_region 5 with fail
   refine wl <| gz1 (.slice b L.length d) <| gzl rfl ⟨g5, 0, none⟩ (.agg (fdA x ba bc)) (load_fdb hbx) <|
    gze (fun v w' => ∃ u, v = .tuple #[u, .int .i64 0] ∧ Own w' V2.heap.size u (L ++ encI x.num x.kind x.val x.bytes) ∧ Below V2.heap.size V2 w') (CF.mono fun e w' q => by obtain ⟨u, he, h⟩ := q; exact ⟨_, he, u, rfl, h⟩) (fun v V3 hq => ?_)
   obtain ⟨u, rfl, hO3, hb3⟩ := hq
   obtain ⟨b3, d3, rfl, -, -⟩ := hO3.sl
   simp only [pu]
   refine gz4 (.tuple #[.slice b3 (L ++ encI x.num x.kind x.val x.bytes).length d3, .int .i64 0]) (.slice b3 (L ++ encI x.num x.kind x.val x.bytes).length d3) (.int .i64 0) (.slice b3 (L ++ encI x.num x.kind x.val x.bytes).length d3) <| wn ?_
   simp only [pu]
   have HO3 := Lib.hid (hO3.base (HB2.out.size))
   have HB3 := Lib.hid (HB2.out.trans (hb3.mono HB2.out.size))
   clear hO3 hb3 hbx CF
   go_upto_region 6 with fail
   refine wl <| gzw (.int .i64 (j + 1 : Nat)) (add_nat rfl j 1 (by omega)) <| gz1 (.int .i64 (j + 1 : Nat)) <| wn ?_
   simp only [pu]
   go_wp2_with fail
   go_roundg (gk - 1)
   case measure => have := HG.out; omega
   case rel => exact ⟨j + 1, b3, _, d3, rfl, rfl, HG.out.2.2, Lib.hid (by rw [HTK.out]; exact HO3.out), HB3, HG.out.1⟩
  ·have HD : Hid (decide ((j : Int) < (n : Int)) = false) := Lib.hid dF
   have HO2 := Lib.hid (by have := HO.out; rwa [List.take_of_length_le (by rw [HPM.out]; omega)] at this : Own wr w.heap.size (.slice b k d) (msg M))
   clear HO hg
   go_upto_region 3 with fail
   refine wl <| gzw (.bool false) (lss_n rfl j n HD.out) <| wn ?_
   simp only [pu]
   go_upto_region 7 with fail
   refine wl <| gz2 (.slice b k d) (.slice b k d) <| wn ?_
   simp only [pu]
   go_wp2_with fail
   go_ret
   exact ⟨_, rfl, HO2.out, HB.out⟩
end Go.Proofs.YtglglhcnofbagaaGreat
namespace Go.Proofs.YtglglhcnofbagaaGreat
attribute [local irreducible] wpList wpQuiet
open Go.RowKit
set_option linter.unusedSimpArgs false
set_option linter.unusedVariables false

set_option maxRecDepth 100000 in
set_option maxHeartbeats 8000000 in
theorem ref_follow (s : ByteArray) (k : Nat) (w : World) : Calls Tryz.prog 108 #[.string s, .int .i64 k] w fun e w' => e = .returned (.bool (fol (nums s) k)) ∧ w = w' := by
 have HIX := Lib.hid (fun (h : k < s.size) => str_at s k h)
 have HV : Hid (fol (nums s) k = (decide (k < s.size) && (decide (128 ≤ (nums s).getD k 0) && decide ((nums s).getD k 0 < 192)))) := Lib.hid (by unfold fol; rw [nums_len])
 generalize fol (nums s) k = t at *
 generalize (nums s).getD k 0 = c at *
 obtain ⟨n, hn⟩ : ∃ n, s.size = n := ⟨_, rfl⟩
 rw [hn] at HIX HV
 go_enter Tryz.func108, Tryz.ntmps108
 go_upto_region 1 with fail
 rcases (show n ≤ k ∨ (k < n ∧ c < 128) ∨ (k < n ∧ 128 ≤ c ∧ c < 192) ∨ (k < n ∧ 192 ≤ c) by omega) with hc | hc | hc | hc
 ·have H8 : Hid (decide ((k : Int) < (n : Int)) = false) := Lib.hid dF
  have HE : Hid (t = false) := Lib.hid (by rw [HV.out]; rw [Bool.eq_false_iff]; simp only [ne_eq, Bool.and_eq_true, decide_eq_true_eq]; omega)
  clear HIX HV
  refine wl <| gz2 (.int .i64 k) (.string s) <| gzv (.int .i64 n) (by rw [← hn]; kernel_rfl) <| gzw (.bool false) (lss_n rfl k n H8.out) <| gz6 (.bool false) undef undef undef undef (.bool false) <|
   gz6 (.bool false) undef undef undef undef (.bool false) <| gz1 (.bool false) <| wn ?_
  simp only [pu]
  go_wp2_with fail
  go_ret
  rw [HE.out]
  exact ⟨rfl, rfl⟩
 ·have H8 : Hid (decide ((k : Int) < (n : Int)) = true) := Lib.hid dT
  have HE : Hid (t = false) := Lib.hid (by rw [HV.out]; rw [Bool.eq_false_iff]; simp only [ne_eq, Bool.and_eq_true, decide_eq_true_eq]; omega)
  have hix := HIX.out hc.1
  clear HIX HV
  refine wl <| gz2 (.int .i64 k) (.string s) <| gzv (.int .i64 n) (by rw [← hn]; kernel_rfl) <| gzw (.bool true) (lss_n rfl k n H8.out) <| gz3 (.bool true) (.string s) (.int .i64 k) <| gzv (.int .u8 c) (hix _ _ _ _ rfl (by kernel_rfl) (by kernel_rfl) _) <|
   gzb (geq_u rfl c 128 dF) <| gz6 (.bool false) (.bool false) undef undef undef undef <| gz2 (.bool false) (.bool false) <| wn ?_
  simp only [pu]
  go_wp2_with fail
  go_ret
  rw [HE.out]
  exact ⟨rfl, rfl⟩
 ·have H8 : Hid (decide ((k : Int) < (n : Int)) = true) := Lib.hid dT
  have HE : Hid (t = true) := Lib.hid (by rw [HV.out]; simp only [Bool.and_eq_true, decide_eq_true_eq]; omega)
  have hix := HIX.out hc.1
  clear HIX HV
  refine wl <| gz2 (.int .i64 k) (.string s) <| gzv (.int .i64 n) (by rw [← hn]; kernel_rfl) <| gzw (.bool true) (lss_n rfl k n H8.out) <| gz3 (.bool true) (.string s) (.int .i64 k) <| gzv (.int .u8 c) (hix _ _ _ _ rfl (by kernel_rfl) (by kernel_rfl) _) <|
   gzb (geq_u rfl c 128 dT) <| gz4 (.bool true) (.bool true) (.string s) (.int .i64 k) <| gzv (.int .u8 c) (hix _ _ _ _ rfl (by kernel_rfl) (by kernel_rfl) _) <|
   gzb (lss_u rfl c 192 dT) <| gz2 (.bool true) (.bool true) <| wn ?_
  simp only [pu]
  go_wp2_with fail
  go_ret
  rw [HE.out]
  exact ⟨rfl, rfl⟩
 ·have H8 : Hid (decide ((k : Int) < (n : Int)) = true) := Lib.hid dT
  have HE : Hid (t = false) := Lib.hid (by rw [HV.out]; rw [Bool.eq_false_iff]; simp only [ne_eq, Bool.and_eq_true, decide_eq_true_eq]; omega)
  have hix := HIX.out hc.1
  clear HIX HV
  refine wl <| gz2 (.int .i64 k) (.string s) <| gzv (.int .i64 n) (by rw [← hn]; kernel_rfl) <| gzw (.bool true) (lss_n rfl k n H8.out) <| gz3 (.bool true) (.string s) (.int .i64 k) <| gzv (.int .u8 c) (hix _ _ _ _ rfl (by kernel_rfl) (by kernel_rfl) _) <|
   gzb (geq_u rfl c 128 dT) <| gz4 (.bool true) (.bool true) (.string s) (.int .i64 k) <| gzv (.int .u8 c) (hix _ _ _ _ rfl (by kernel_rfl) (by kernel_rfl) _) <|
   gzb (lss_u rfl c 192 dF) <| gz2 (.bool false) (.bool false) <| wn ?_
  simp only [pu]
  go_wp2_with fail
  go_ret
  rw [HE.out]
  exact ⟨rfl, rfl⟩
set_option maxRecDepth 100000 in
set_option maxHeartbeats 8000000 in
theorem ref_rune (s : ByteArray) (i : Nat) (w : World) (hi : i < s.size) (hl : s.size ≤ 140737488355328) : Calls Tryz.prog 99 #[.string s, .int .i64 i] w fun e w' => e = .returned (.int .i64 (runK (nums s) i : Nat)) ∧ w = w' := by
 have hix := str_at s i hi
 have HI1 := Lib.hid (fun (h : fol (nums s) (i + 1) = true) => str_at s (i + 1) (by have := (fol_rng h).1; rwa [nums_len] at this))
 have CF1 := ref_follow s (i + 1) w
 have CF2 := ref_follow s (i + 2) w
 have CF3 := ref_follow s (i + 3) w
 have HV : Hid (runK (nums s) i = runN ((nums s).getD i 0) ((nums s).getD (i + 1) 0) (fol (nums s) (i + 1)) (fol (nums s) (i + 2)) (fol (nums s) (i + 3))) := Lib.hid rfl
 generalize runK (nums s) i = r at *
 generalize (nums s).getD i 0 = c at *
 generalize (nums s).getD (i + 1) 0 = d at *
 generalize fol (nums s) (i + 1) = f1 at *
 generalize fol (nums s) (i + 2) = f2 at *
 generalize fol (nums s) (i + 3) = f3 at *
 go_enter Tryz.func99, Tryz.ntmps99
 go_upto_region 1 with fail
 refine wl <| gz2 (.string s) (.int .i64 i) <| gzv (.int .u8 c) (hix _ _ _ _ rfl (by kernel_rfl) (by kernel_rfl) _) <| gz1 (.int .u8 c) <| wn ?_
 simp only [pu]
 clear hix
 go_upto_region 2 with fail
 rcases (show (c < 128) ∨ (128 ≤ c ∧ c < 194) ∨ (194 ≤ c ∧ c < 224) ∨ (224 ≤ c ∧ c < 240) ∨ (240 ≤ c ∧ c < 245) ∨ (245 ≤ c) by omega) with hc | hc | hc | hc | hc | hc
 ·skip
  refine wl <| gz1 (.int .u8 c) <| gzb (lss_u rfl c 128 dT) <| gz1 (.bool true) <| wn ?_
  simp only [pu]
  have HE : Hid (r = 1) := by
   refine Lib.hid ?_
   rw [HV.out]
   unfold runN
   try simp only [and_true, and_false, false_and, true_and, if_false, if_true, eq_self, Bool.false_eq_true, reduceCtorEq]
   repeat' split
   all_goals (first | rfl | omega)
  go_upto_region 3 with fail
  refine wl <| gz1 (.int .i64 1) <| wn ?_
  simp only [pu]
  go_wp2_with fail
  go_ret
  rw [HE.out]
  exact ⟨rfl, rfl⟩
 ·skip
  refine wl <| gz1 (.int .u8 c) <| gzb (lss_u rfl c 128 dF) <| gz1 (.bool false) <| wn ?_
  simp only [pu]
  go_upto_region 4 with fail
  refine wl <| gz1 (.int .u8 c) <| gzb (geq_u rfl c 194 dF) <| gz6 (.bool false) undef undef (.bool false) (.bool false) undef <| gz5 undef undef undef (.bool false) (.bool false) <| wn ?_
  simp only [pu]
  go_upto_region 6 with fail
  refine wl <| gz1 (.int .u8 c) <| gzb (geq_u rfl c 224 dF) <| gz6 (.bool false) undef undef (.bool false) (.bool false) undef <| gz6 undef undef undef (.bool false) (.bool false) undef <|
   gz5 undef undef undef (.bool false) (.bool false) <| wn ?_
  simp only [pu]
  go_upto_region 10 with fail
  refine wl <| gz1 (.int .u8 c) <| gzb (geq_u rfl c 240 dF) <| gz6 (.bool false) undef undef (.bool false) (.bool false) undef <| gz6 undef undef undef (.bool false) (.bool false) undef <|
   gz6 undef undef undef (.bool false) (.bool false) undef <| gz5 undef undef undef (.bool false) (.bool false) <| wn ?_
  simp only [pu]
  have HE : Hid (r = 0) := by
   refine Lib.hid ?_
   rw [HV.out]
   unfold runN
   try simp only [and_true, and_false, false_and, true_and, if_false, if_true, eq_self, Bool.false_eq_true, reduceCtorEq]
   repeat' split
   all_goals (first | rfl | omega)
  go_upto_region 14 with fail
  refine wl <| gz1 (.int .i64 0) <| wn ?_
  simp only [pu]
  go_wp2_with fail
  go_ret
  rw [HE.out]
  exact ⟨rfl, rfl⟩
 ·skip
  refine wl <| gz1 (.int .u8 c) <| gzb (lss_u rfl c 128 dF) <| gz1 (.bool false) <| wn ?_
  simp only [pu]
  cases f1
  ·skip
   go_upto_region 4 with fail
   refine wl <| gz1 (.int .u8 c) <| gzb (geq_u rfl c 194 dT) <| gz2 (.bool true) (.int .u8 c) <| gzb (lss_u rfl c 224 dT) <|
    gz4 (.bool true) (.bool true) (.string s) (.int .i64 i) <| gzw (.int .i64 (i + 1 : Nat)) (add_nat rfl i 1 (by omega)) <| gzc (.bool false) (fun w' => w = w') CF1 (fun W hW => ?_)
   subst hW
   simp only [pu]
   refine gz2 (.bool false) (.bool false) <| wn ?_
   simp only [pu]
   go_upto_region 6 with fail
   refine wl <| gz1 (.int .u8 c) <| gzb (geq_u rfl c 224 dF) <| gz6 (.bool false) undef undef (.bool false) (.bool false) undef <| gz6 undef undef undef (.bool false) (.bool false) undef <|
    gz5 undef undef undef (.bool false) (.bool false) <| wn ?_
   simp only [pu]
   go_upto_region 10 with fail
   refine wl <| gz1 (.int .u8 c) <| gzb (geq_u rfl c 240 dF) <| gz6 (.bool false) undef undef (.bool false) (.bool false) undef <| gz6 undef undef undef (.bool false) (.bool false) undef <|
    gz6 undef undef undef (.bool false) (.bool false) undef <| gz5 undef undef undef (.bool false) (.bool false) <| wn ?_
   simp only [pu]
   have HE : Hid (r = 0) := by
    refine Lib.hid ?_
    rw [HV.out]
    unfold runN
    try simp only [and_true, and_false, false_and, true_and, if_false, if_true, eq_self, Bool.false_eq_true, reduceCtorEq]
    repeat' split
    all_goals (first | rfl | omega)
   go_upto_region 14 with fail
   refine wl <| gz1 (.int .i64 0) <| wn ?_
   simp only [pu]
   go_wp2_with fail
   go_ret
   rw [HE.out]
   exact ⟨rfl, rfl⟩
  ·skip
   go_upto_region 4 with fail
   refine wl <| gz1 (.int .u8 c) <| gzb (geq_u rfl c 194 dT) <| gz2 (.bool true) (.int .u8 c) <| gzb (lss_u rfl c 224 dT) <|
    gz4 (.bool true) (.bool true) (.string s) (.int .i64 i) <| gzw (.int .i64 (i + 1 : Nat)) (add_nat rfl i 1 (by omega)) <| gzc (.bool true) (fun w' => w = w') CF1 (fun W hW => ?_)
   subst hW
   simp only [pu]
   refine gz2 (.bool true) (.bool true) <| wn ?_
   simp only [pu]
   have HE : Hid (r = 2) := by
    refine Lib.hid ?_
    rw [HV.out]
    unfold runN
    try simp only [and_true, and_false, false_and, true_and, if_false, if_true, eq_self, Bool.false_eq_true, reduceCtorEq]
    repeat' split
    all_goals (first | rfl | omega)
   go_upto_region 5 with fail
   refine wl <| gz1 (.int .i64 2) <| wn ?_
   simp only [pu]
   go_wp2_with fail
   go_ret
   rw [HE.out]
   exact ⟨rfl, rfl⟩
 ·skip
  refine wl <| gz1 (.int .u8 c) <| gzb (lss_u rfl c 128 dF) <| gz1 (.bool false) <| wn ?_
  simp only [pu]
  cases f1
  ·skip
   go_upto_region 4 with fail
   refine wl <| gz1 (.int .u8 c) <| gzb (geq_u rfl c 194 dT) <| gz2 (.bool true) (.int .u8 c) <| gzb (lss_u rfl c 224 dF) <|
    gz6 (.bool false) (.bool false) undef undef undef undef <| gz2 (.bool false) (.bool false) <| wn ?_
   simp only [pu]
   go_upto_region 6 with fail
   refine wl <| gz1 (.int .u8 c) <| gzb (geq_u rfl c 224 dT) <| gz2 (.bool true) (.int .u8 c) <| gzb (lss_u rfl c 240 dT) <|
    gz4 (.bool true) (.bool true) (.string s) (.int .i64 i) <| gzw (.int .i64 (i + 1 : Nat)) (add_nat rfl i 1 (by omega)) <| gzc (.bool false) (fun w' => w = w') CF1 (fun W hW => ?_)
   subst hW
   simp only [pu]
   refine gz6 (.bool false) (.bool false) undef undef undef undef <| gz2 (.bool false) (.bool false) <| wn ?_
   simp only [pu]
   go_upto_region 10 with fail
   refine wl <| gz1 (.int .u8 c) <| gzb (geq_u rfl c 240 dF) <| gz6 (.bool false) undef undef (.bool false) (.bool false) undef <| gz6 undef undef undef (.bool false) (.bool false) undef <|
    gz6 undef undef undef (.bool false) (.bool false) undef <| gz5 undef undef undef (.bool false) (.bool false) <| wn ?_
   simp only [pu]
   have HE : Hid (r = 0) := by
    refine Lib.hid ?_
    rw [HV.out]
    unfold runN
    try simp only [and_true, and_false, false_and, true_and, if_false, if_true, eq_self, Bool.false_eq_true, reduceCtorEq]
    repeat' split
    all_goals (first | rfl | omega)
   go_upto_region 14 with fail
   refine wl <| gz1 (.int .i64 0) <| wn ?_
   simp only [pu]
   go_wp2_with fail
   go_ret
   rw [HE.out]
   exact ⟨rfl, rfl⟩
  ·skip
   cases f2
   ·skip
    go_upto_region 4 with fail
    refine wl <| gz1 (.int .u8 c) <| gzb (geq_u rfl c 194 dT) <| gz2 (.bool true) (.int .u8 c) <| gzb (lss_u rfl c 224 dF) <|
     gz6 (.bool false) (.bool false) undef undef undef undef <| gz2 (.bool false) (.bool false) <| wn ?_
    simp only [pu]
    go_upto_region 6 with fail
    refine wl <| gz1 (.int .u8 c) <| gzb (geq_u rfl c 224 dT) <| gz2 (.bool true) (.int .u8 c) <| gzb (lss_u rfl c 240 dT) <|
     gz4 (.bool true) (.bool true) (.string s) (.int .i64 i) <| gzw (.int .i64 (i + 1 : Nat)) (add_nat rfl i 1 (by omega)) <| gzc (.bool true) (fun w' => w = w') CF1 (fun W hW => ?_)
    subst hW
    simp only [pu]
    refine gz4 (.bool true) (.bool true) (.string s) (.int .i64 i) <| gzw (.int .i64 (i + 2 : Nat)) (add_nat rfl i 2 (by omega)) <| gzc (.bool false) (fun w' => w = w') CF2 (fun W hW => ?_)
    subst hW
    simp only [pu]
    refine gz2 (.bool false) (.bool false) <| wn ?_
    simp only [pu]
    go_upto_region 10 with fail
    refine wl <| gz1 (.int .u8 c) <| gzb (geq_u rfl c 240 dF) <| gz6 (.bool false) undef undef (.bool false) (.bool false) undef <| gz6 undef undef undef (.bool false) (.bool false) undef <|
     gz6 undef undef undef (.bool false) (.bool false) undef <| gz5 undef undef undef (.bool false) (.bool false) <| wn ?_
    simp only [pu]
    have HE : Hid (r = 0) := by
     refine Lib.hid ?_
     rw [HV.out]
     unfold runN
     try simp only [and_true, and_false, false_and, true_and, if_false, if_true, eq_self, Bool.false_eq_true, reduceCtorEq]
     repeat' split
     all_goals (first | rfl | omega)
    go_upto_region 14 with fail
    refine wl <| gz1 (.int .i64 0) <| wn ?_
    simp only [pu]
    go_wp2_with fail
    go_ret
    rw [HE.out]
    exact ⟨rfl, rfl⟩
   ·skip
    go_upto_region 4 with fail
    refine wl <| gz1 (.int .u8 c) <| gzb (geq_u rfl c 194 dT) <| gz2 (.bool true) (.int .u8 c) <| gzb (lss_u rfl c 224 dF) <|
     gz6 (.bool false) (.bool false) undef undef undef undef <| gz2 (.bool false) (.bool false) <| wn ?_
    simp only [pu]
    go_upto_region 6 with fail
    refine wl <| gz1 (.int .u8 c) <| gzb (geq_u rfl c 224 dT) <| gz2 (.bool true) (.int .u8 c) <| gzb (lss_u rfl c 240 dT) <|
     gz4 (.bool true) (.bool true) (.string s) (.int .i64 i) <| gzw (.int .i64 (i + 1 : Nat)) (add_nat rfl i 1 (by omega)) <| gzc (.bool true) (fun w' => w = w') CF1 (fun W hW => ?_)
    subst hW
    simp only [pu]
    refine gz4 (.bool true) (.bool true) (.string s) (.int .i64 i) <| gzw (.int .i64 (i + 2 : Nat)) (add_nat rfl i 2 (by omega)) <| gzc (.bool true) (fun w' => w = w') CF2 (fun W hW => ?_)
    subst hW
    simp only [pu]
    refine gz2 (.bool true) (.bool true) <| wn ?_
    simp only [pu]
    have hid := HI1.out rfl
    clear HI1
    go_upto_region 7 with fail
    rcases (show (c = 224 ∧ d < 160) ∨ (c = 224 ∧ 160 ≤ d) ∨ (c = 237 ∧ d < 160) ∨ (c = 237 ∧ 160 ≤ d) ∨ (c ≠ 224 ∧ c ≠ 237) by omega) with hd | hd | hd | hd | hd
    ·skip
     refine wl <| gz1 (.int .u8 c) <| gzb (eql_u rfl c 224 dT) <| gz3 (.bool true) (.string s) (.int .i64 i) <| gzw (.int .i64 (i + 1 : Nat)) (add_nat rfl i 1 (by omega)) <|
      gzv (.int .u8 d) (hid _ _ _ _ rfl (by kernel_rfl) (by kernel_rfl) _) <| gzb (lss_u rfl d 160 dT) <| gz6 (.bool true) (.bool true) undef undef undef undef <| gz6 undef undef undef undef undef (.bool true) <|
      wpList_nil ?_
     simp only [pu]
     have HE : Hid (r = 0) := by
      refine Lib.hid ?_
      rw [HV.out]
      unfold runN
      try simp only [and_true, and_false, false_and, true_and, if_false, if_true, eq_self, Bool.false_eq_true, reduceCtorEq]
      repeat' split
      all_goals (first | rfl | omega)
     go_upto_region 8 with fail
     refine wl <| gz1 (.int .i64 0) <| wn ?_
     simp only [pu]
     go_wp2_with fail
     go_ret
     rw [HE.out]
     exact ⟨rfl, rfl⟩
    ·skip
     refine wl <| gz1 (.int .u8 c) <| gzb (eql_u rfl c 224 dT) <| gz3 (.bool true) (.string s) (.int .i64 i) <| gzw (.int .i64 (i + 1 : Nat)) (add_nat rfl i 1 (by omega)) <|
      gzv (.int .u8 d) (hid _ _ _ _ rfl (by kernel_rfl) (by kernel_rfl) _) <| gzb (lss_u rfl d 160 dF) <| gz3 (.bool false) (.bool false) (.int .u8 c) <|
      gzb (eql_u rfl c 237 dF) <| gz6 (.bool false) undef undef undef undef undef <| gz2 (.bool false) (.bool false) <| wn ?_
     simp only [pu]
     have HE : Hid (r = 3) := by
      refine Lib.hid ?_
      rw [HV.out]
      unfold runN
      try simp only [and_true, and_false, false_and, true_and, if_false, if_true, eq_self, Bool.false_eq_true, reduceCtorEq]
      repeat' split
      all_goals (first | rfl | omega)
     go_upto_region 9 with fail
     refine wl <| gz1 (.int .i64 3) <| wn ?_
     simp only [pu]
     go_wp2_with fail
     go_ret
     rw [HE.out]
     exact ⟨rfl, rfl⟩
    ·skip
     refine wl <| gz1 (.int .u8 c) <| gzb (eql_u rfl c 224 dF) <| gz6 (.bool false) undef undef undef undef undef <| gz3 (.bool false) (.bool false) (.int .u8 c) <|
      gzb (eql_u rfl c 237 dT) <| gz3 (.bool true) (.string s) (.int .i64 i) <| gzw (.int .i64 (i + 1 : Nat)) (add_nat rfl i 1 (by omega)) <|
      gzv (.int .u8 d) (hid _ _ _ _ rfl (by kernel_rfl) (by kernel_rfl) _) <| gzb (geq_u rfl d 160 dF) <| gz2 (.bool false) (.bool false) <| wn ?_
     simp only [pu]
     have HE : Hid (r = 3) := by
      refine Lib.hid ?_
      rw [HV.out]
      unfold runN
      try simp only [and_true, and_false, false_and, true_and, if_false, if_true, eq_self, Bool.false_eq_true, reduceCtorEq]
      repeat' split
      all_goals (first | rfl | omega)
     go_upto_region 9 with fail
     refine wl <| gz1 (.int .i64 3) <| wn ?_
     simp only [pu]
     go_wp2_with fail
     go_ret
     rw [HE.out]
     exact ⟨rfl, rfl⟩
    ·skip
     refine wl <| gz1 (.int .u8 c) <| gzb (eql_u rfl c 224 dF) <| gz6 (.bool false) undef undef undef undef undef <| gz3 (.bool false) (.bool false) (.int .u8 c) <|
      gzb (eql_u rfl c 237 dT) <| gz3 (.bool true) (.string s) (.int .i64 i) <| gzw (.int .i64 (i + 1 : Nat)) (add_nat rfl i 1 (by omega)) <|
      gzv (.int .u8 d) (hid _ _ _ _ rfl (by kernel_rfl) (by kernel_rfl) _) <| gzb (geq_u rfl d 160 dT) <| gz2 (.bool true) (.bool true) <| wn ?_
     simp only [pu]
     have HE : Hid (r = 0) := by
      refine Lib.hid ?_
      rw [HV.out]
      unfold runN
      try simp only [and_true, and_false, false_and, true_and, if_false, if_true, eq_self, Bool.false_eq_true, reduceCtorEq]
      repeat' split
      all_goals (first | rfl | omega)
     go_upto_region 8 with fail
     refine wl <| gz1 (.int .i64 0) <| wn ?_
     simp only [pu]
     go_wp2_with fail
     go_ret
     rw [HE.out]
     exact ⟨rfl, rfl⟩
    ·skip
     refine wl <| gz1 (.int .u8 c) <| gzb (eql_u rfl c 224 dF) <| gz6 (.bool false) undef undef undef undef undef <| gz3 (.bool false) (.bool false) (.int .u8 c) <|
      gzb (eql_u rfl c 237 dF) <| gz6 (.bool false) undef undef undef undef undef <| gz2 (.bool false) (.bool false) <| wn ?_
     simp only [pu]
     have HE : Hid (r = 3) := by
      refine Lib.hid ?_
      rw [HV.out]
      unfold runN
      try simp only [and_true, and_false, false_and, true_and, if_false, if_true, eq_self, Bool.false_eq_true, reduceCtorEq]
      repeat' split
      all_goals (first | rfl | omega)
     go_upto_region 9 with fail
     refine wl <| gz1 (.int .i64 3) <| wn ?_
     simp only [pu]
     go_wp2_with fail
     go_ret
     rw [HE.out]
     exact ⟨rfl, rfl⟩
 ·skip
  refine wl <| gz1 (.int .u8 c) <| gzb (lss_u rfl c 128 dF) <| gz1 (.bool false) <| wn ?_
  simp only [pu]
  cases f1
  ·skip
   go_upto_region 4 with fail
   refine wl <| gz1 (.int .u8 c) <| gzb (geq_u rfl c 194 dT) <| gz2 (.bool true) (.int .u8 c) <| gzb (lss_u rfl c 224 dF) <|
    gz6 (.bool false) (.bool false) undef undef undef undef <| gz2 (.bool false) (.bool false) <| wn ?_
   simp only [pu]
   go_upto_region 6 with fail
   refine wl <| gz1 (.int .u8 c) <| gzb (geq_u rfl c 224 dT) <| gz2 (.bool true) (.int .u8 c) <| gzb (lss_u rfl c 240 dF) <|
    gz6 (.bool false) (.bool false) undef undef undef undef <| gz6 (.bool false) (.bool false) undef undef undef undef <| gz2 (.bool false) (.bool false) <| wn ?_
   simp only [pu]
   go_upto_region 10 with fail
   refine wl <| gz1 (.int .u8 c) <| gzb (geq_u rfl c 240 dT) <| gz2 (.bool true) (.int .u8 c) <| gzb (lss_u rfl c 245 dT) <|
    gz4 (.bool true) (.bool true) (.string s) (.int .i64 i) <| gzw (.int .i64 (i + 1 : Nat)) (add_nat rfl i 1 (by omega)) <| gzc (.bool false) (fun w' => w = w') CF1 (fun W hW => ?_)
   subst hW
   simp only [pu]
   refine gz6 (.bool false) (.bool false) undef undef undef undef <| gz6 (.bool false) (.bool false) undef undef undef undef <| gz2 (.bool false) (.bool false) <| wn ?_
   simp only [pu]
   have HE : Hid (r = 0) := by
    refine Lib.hid ?_
    rw [HV.out]
    unfold runN
    try simp only [and_true, and_false, false_and, true_and, if_false, if_true, eq_self, Bool.false_eq_true, reduceCtorEq]
    repeat' split
    all_goals (first | rfl | omega)
   go_upto_region 14 with fail
   refine wl <| gz1 (.int .i64 0) <| wn ?_
   simp only [pu]
   go_wp2_with fail
   go_ret
   rw [HE.out]
   exact ⟨rfl, rfl⟩
  ·skip
   cases f2
   ·skip
    go_upto_region 4 with fail
    refine wl <| gz1 (.int .u8 c) <| gzb (geq_u rfl c 194 dT) <| gz2 (.bool true) (.int .u8 c) <| gzb (lss_u rfl c 224 dF) <|
     gz6 (.bool false) (.bool false) undef undef undef undef <| gz2 (.bool false) (.bool false) <| wn ?_
    simp only [pu]
    go_upto_region 6 with fail
    refine wl <| gz1 (.int .u8 c) <| gzb (geq_u rfl c 224 dT) <| gz2 (.bool true) (.int .u8 c) <| gzb (lss_u rfl c 240 dF) <|
     gz6 (.bool false) (.bool false) undef undef undef undef <| gz6 (.bool false) (.bool false) undef undef undef undef <| gz2 (.bool false) (.bool false) <| wn ?_
    simp only [pu]
    go_upto_region 10 with fail
    refine wl <| gz1 (.int .u8 c) <| gzb (geq_u rfl c 240 dT) <| gz2 (.bool true) (.int .u8 c) <| gzb (lss_u rfl c 245 dT) <|
     gz4 (.bool true) (.bool true) (.string s) (.int .i64 i) <| gzw (.int .i64 (i + 1 : Nat)) (add_nat rfl i 1 (by omega)) <| gzc (.bool true) (fun w' => w = w') CF1 (fun W hW => ?_)
    subst hW
    simp only [pu]
    refine gz4 (.bool true) (.bool true) (.string s) (.int .i64 i) <| gzw (.int .i64 (i + 2 : Nat)) (add_nat rfl i 2 (by omega)) <| gzc (.bool false) (fun w' => w = w') CF2 (fun W hW => ?_)
    subst hW
    simp only [pu]
    refine gz6 (.bool false) (.bool false) undef undef undef undef <| gz2 (.bool false) (.bool false) <| wn ?_
    simp only [pu]
    have HE : Hid (r = 0) := by
     refine Lib.hid ?_
     rw [HV.out]
     unfold runN
     try simp only [and_true, and_false, false_and, true_and, if_false, if_true, eq_self, Bool.false_eq_true, reduceCtorEq]
     repeat' split
     all_goals (first | rfl | omega)
    go_upto_region 14 with fail
    refine wl <| gz1 (.int .i64 0) <| wn ?_
    simp only [pu]
    go_wp2_with fail
    go_ret
    rw [HE.out]
    exact ⟨rfl, rfl⟩
   ·skip
    cases f3
    ·skip
     go_upto_region 4 with fail
     refine wl <| gz1 (.int .u8 c) <| gzb (geq_u rfl c 194 dT) <| gz2 (.bool true) (.int .u8 c) <| gzb (lss_u rfl c 224 dF) <|
      gz6 (.bool false) (.bool false) undef undef undef undef <| gz2 (.bool false) (.bool false) <| wn ?_
     simp only [pu]
     go_upto_region 6 with fail
     refine wl <| gz1 (.int .u8 c) <| gzb (geq_u rfl c 224 dT) <| gz2 (.bool true) (.int .u8 c) <| gzb (lss_u rfl c 240 dF) <|
      gz6 (.bool false) (.bool false) undef undef undef undef <| gz6 (.bool false) (.bool false) undef undef undef undef <| gz2 (.bool false) (.bool false) <| wn ?_
     simp only [pu]
     go_upto_region 10 with fail
     refine wl <| gz1 (.int .u8 c) <| gzb (geq_u rfl c 240 dT) <| gz2 (.bool true) (.int .u8 c) <| gzb (lss_u rfl c 245 dT) <|
      gz4 (.bool true) (.bool true) (.string s) (.int .i64 i) <| gzw (.int .i64 (i + 1 : Nat)) (add_nat rfl i 1 (by omega)) <| gzc (.bool true) (fun w' => w = w') CF1 (fun W hW => ?_)
     subst hW
     simp only [pu]
     refine gz4 (.bool true) (.bool true) (.string s) (.int .i64 i) <| gzw (.int .i64 (i + 2 : Nat)) (add_nat rfl i 2 (by omega)) <| gzc (.bool true) (fun w' => w = w') CF2 (fun W hW => ?_)
     subst hW
     simp only [pu]
     refine gz4 (.bool true) (.bool true) (.string s) (.int .i64 i) <| gzw (.int .i64 (i + 3 : Nat)) (add_nat rfl i 3 (by omega)) <| gzc (.bool false) (fun w' => w = w') CF3 (fun W hW => ?_)
     subst hW
     simp only [pu]
     refine gz2 (.bool false) (.bool false) <| wn ?_
     simp only [pu]
     have HE : Hid (r = 0) := by
      refine Lib.hid ?_
      rw [HV.out]
      unfold runN
      try simp only [and_true, and_false, false_and, true_and, if_false, if_true, eq_self, Bool.false_eq_true, reduceCtorEq]
      repeat' split
      all_goals (first | rfl | omega)
     go_upto_region 14 with fail
     refine wl <| gz1 (.int .i64 0) <| wn ?_
     simp only [pu]
     go_wp2_with fail
     go_ret
     rw [HE.out]
     exact ⟨rfl, rfl⟩
    ·skip
     go_upto_region 4 with fail
     refine wl <| gz1 (.int .u8 c) <| gzb (geq_u rfl c 194 dT) <| gz2 (.bool true) (.int .u8 c) <| gzb (lss_u rfl c 224 dF) <|
      gz6 (.bool false) (.bool false) undef undef undef undef <| gz2 (.bool false) (.bool false) <| wn ?_
     simp only [pu]
     go_upto_region 6 with fail
     refine wl <| gz1 (.int .u8 c) <| gzb (geq_u rfl c 224 dT) <| gz2 (.bool true) (.int .u8 c) <| gzb (lss_u rfl c 240 dF) <|
      gz6 (.bool false) (.bool false) undef undef undef undef <| gz6 (.bool false) (.bool false) undef undef undef undef <| gz2 (.bool false) (.bool false) <| wn ?_
     simp only [pu]
     go_upto_region 10 with fail
     refine wl <| gz1 (.int .u8 c) <| gzb (geq_u rfl c 240 dT) <| gz2 (.bool true) (.int .u8 c) <| gzb (lss_u rfl c 245 dT) <|
      gz4 (.bool true) (.bool true) (.string s) (.int .i64 i) <| gzw (.int .i64 (i + 1 : Nat)) (add_nat rfl i 1 (by omega)) <| gzc (.bool true) (fun w' => w = w') CF1 (fun W hW => ?_)
     subst hW
     simp only [pu]
     refine gz4 (.bool true) (.bool true) (.string s) (.int .i64 i) <| gzw (.int .i64 (i + 2 : Nat)) (add_nat rfl i 2 (by omega)) <| gzc (.bool true) (fun w' => w = w') CF2 (fun W hW => ?_)
     subst hW
     simp only [pu]
     refine gz4 (.bool true) (.bool true) (.string s) (.int .i64 i) <| gzw (.int .i64 (i + 3 : Nat)) (add_nat rfl i 3 (by omega)) <| gzc (.bool true) (fun w' => w = w') CF3 (fun W hW => ?_)
     subst hW
     simp only [pu]
     refine gz2 (.bool true) (.bool true) <| wn ?_
     simp only [pu]
     have hid := HI1.out rfl
     clear HI1
     go_upto_region 11 with fail
     rcases (show (c = 240 ∧ d < 144) ∨ (c = 240 ∧ 144 ≤ d) ∨ (c = 244 ∧ d < 144) ∨ (c = 244 ∧ 144 ≤ d) ∨ (c ≠ 240 ∧ c ≠ 244) by omega) with hd | hd | hd | hd | hd
     ·skip
      refine wl <| gz1 (.int .u8 c) <| gzb (eql_u rfl c 240 dT) <| gz3 (.bool true) (.string s) (.int .i64 i) <| gzw (.int .i64 (i + 1 : Nat)) (add_nat rfl i 1 (by omega)) <|
       gzv (.int .u8 d) (hid _ _ _ _ rfl (by kernel_rfl) (by kernel_rfl) _) <| gzb (lss_u rfl d 144 dT) <| gz6 (.bool true) (.bool true) undef undef undef undef <| gz6 undef undef undef undef undef (.bool true) <|
       wpList_nil ?_
      simp only [pu]
      have HE : Hid (r = 0) := by
       refine Lib.hid ?_
       rw [HV.out]
       unfold runN
       try simp only [and_true, and_false, false_and, true_and, if_false, if_true, eq_self, Bool.false_eq_true, reduceCtorEq]
       repeat' split
       all_goals (first | rfl | omega)
      go_upto_region 12 with fail
      refine wl <| gz1 (.int .i64 0) <| wn ?_
      simp only [pu]
      go_wp2_with fail
      go_ret
      rw [HE.out]
      exact ⟨rfl, rfl⟩
     ·skip
      refine wl <| gz1 (.int .u8 c) <| gzb (eql_u rfl c 240 dT) <| gz3 (.bool true) (.string s) (.int .i64 i) <| gzw (.int .i64 (i + 1 : Nat)) (add_nat rfl i 1 (by omega)) <|
       gzv (.int .u8 d) (hid _ _ _ _ rfl (by kernel_rfl) (by kernel_rfl) _) <| gzb (lss_u rfl d 144 dF) <| gz3 (.bool false) (.bool false) (.int .u8 c) <|
       gzb (eql_u rfl c 244 dF) <| gz6 (.bool false) undef undef undef undef undef <| gz2 (.bool false) (.bool false) <| wn ?_
      simp only [pu]
      have HE : Hid (r = 4) := by
       refine Lib.hid ?_
       rw [HV.out]
       unfold runN
       try simp only [and_true, and_false, false_and, true_and, if_false, if_true, eq_self, Bool.false_eq_true, reduceCtorEq]
       repeat' split
       all_goals (first | rfl | omega)
      go_upto_region 13 with fail
      refine wl <| gz1 (.int .i64 4) <| wn ?_
      simp only [pu]
      go_wp2_with fail
      go_ret
      rw [HE.out]
      exact ⟨rfl, rfl⟩
     ·skip
      refine wl <| gz1 (.int .u8 c) <| gzb (eql_u rfl c 240 dF) <| gz6 (.bool false) undef undef undef undef undef <| gz3 (.bool false) (.bool false) (.int .u8 c) <|
       gzb (eql_u rfl c 244 dT) <| gz3 (.bool true) (.string s) (.int .i64 i) <| gzw (.int .i64 (i + 1 : Nat)) (add_nat rfl i 1 (by omega)) <|
       gzv (.int .u8 d) (hid _ _ _ _ rfl (by kernel_rfl) (by kernel_rfl) _) <| gzb (geq_u rfl d 144 dF) <| gz2 (.bool false) (.bool false) <| wn ?_
      simp only [pu]
      have HE : Hid (r = 4) := by
       refine Lib.hid ?_
       rw [HV.out]
       unfold runN
       try simp only [and_true, and_false, false_and, true_and, if_false, if_true, eq_self, Bool.false_eq_true, reduceCtorEq]
       repeat' split
       all_goals (first | rfl | omega)
      go_upto_region 13 with fail
      refine wl <| gz1 (.int .i64 4) <| wn ?_
      simp only [pu]
      go_wp2_with fail
      go_ret
      rw [HE.out]
      exact ⟨rfl, rfl⟩
     ·skip
      refine wl <| gz1 (.int .u8 c) <| gzb (eql_u rfl c 240 dF) <| gz6 (.bool false) undef undef undef undef undef <| gz3 (.bool false) (.bool false) (.int .u8 c) <|
       gzb (eql_u rfl c 244 dT) <| gz3 (.bool true) (.string s) (.int .i64 i) <| gzw (.int .i64 (i + 1 : Nat)) (add_nat rfl i 1 (by omega)) <|
       gzv (.int .u8 d) (hid _ _ _ _ rfl (by kernel_rfl) (by kernel_rfl) _) <| gzb (geq_u rfl d 144 dT) <| gz2 (.bool true) (.bool true) <| wn ?_
      simp only [pu]
      have HE : Hid (r = 0) := by
       refine Lib.hid ?_
       rw [HV.out]
       unfold runN
       try simp only [and_true, and_false, false_and, true_and, if_false, if_true, eq_self, Bool.false_eq_true, reduceCtorEq]
       repeat' split
       all_goals (first | rfl | omega)
      go_upto_region 12 with fail
      refine wl <| gz1 (.int .i64 0) <| wn ?_
      simp only [pu]
      go_wp2_with fail
      go_ret
      rw [HE.out]
      exact ⟨rfl, rfl⟩
     ·skip
      refine wl <| gz1 (.int .u8 c) <| gzb (eql_u rfl c 240 dF) <| gz6 (.bool false) undef undef undef undef undef <| gz3 (.bool false) (.bool false) (.int .u8 c) <|
       gzb (eql_u rfl c 244 dF) <| gz6 (.bool false) undef undef undef undef undef <| gz2 (.bool false) (.bool false) <| wn ?_
      simp only [pu]
      have HE : Hid (r = 4) := by
       refine Lib.hid ?_
       rw [HV.out]
       unfold runN
       try simp only [and_true, and_false, false_and, true_and, if_false, if_true, eq_self, Bool.false_eq_true, reduceCtorEq]
       repeat' split
       all_goals (first | rfl | omega)
      go_upto_region 13 with fail
      refine wl <| gz1 (.int .i64 4) <| wn ?_
      simp only [pu]
      go_wp2_with fail
      go_ret
      rw [HE.out]
      exact ⟨rfl, rfl⟩
 ·skip
  refine wl <| gz1 (.int .u8 c) <| gzb (lss_u rfl c 128 dF) <| gz1 (.bool false) <| wn ?_
  simp only [pu]
  go_upto_region 4 with fail
  refine wl <| gz1 (.int .u8 c) <| gzb (geq_u rfl c 194 dT) <| gz2 (.bool true) (.int .u8 c) <| gzb (lss_u rfl c 224 dF) <|
   gz6 (.bool false) (.bool false) undef undef undef undef <| gz2 (.bool false) (.bool false) <| wn ?_
  simp only [pu]
  go_upto_region 6 with fail
  refine wl <| gz1 (.int .u8 c) <| gzb (geq_u rfl c 224 dT) <| gz2 (.bool true) (.int .u8 c) <| gzb (lss_u rfl c 240 dF) <|
   gz6 (.bool false) (.bool false) undef undef undef undef <| gz6 (.bool false) (.bool false) undef undef undef undef <| gz2 (.bool false) (.bool false) <| wn ?_
  simp only [pu]
  go_upto_region 10 with fail
  refine wl <| gz1 (.int .u8 c) <| gzb (geq_u rfl c 240 dT) <| gz2 (.bool true) (.int .u8 c) <| gzb (lss_u rfl c 245 dF) <|
   gz6 (.bool false) (.bool false) undef undef undef undef <| gz6 (.bool false) (.bool false) undef undef undef undef <| gz6 (.bool false) (.bool false) undef undef undef undef <| gz2 (.bool false) (.bool false) <| wn ?_
  simp only [pu]
  have HE : Hid (r = 0) := by
   refine Lib.hid ?_
   rw [HV.out]
   unfold runN
   try simp only [and_true, and_false, false_and, true_and, if_false, if_true, eq_self, Bool.false_eq_true, reduceCtorEq]
   repeat' split
   all_goals (first | rfl | omega)
  go_upto_region 14 with fail
  refine wl <| gz1 (.int .i64 0) <| wn ?_
  simp only [pu]
  go_wp2_with fail
  go_ret
  rw [HE.out]
  exact ⟨rfl, rfl⟩
end Go.Proofs.YtglglhcnofbagaaGreat
namespace Go.Proofs.YtglglhcnofbagaaGreat
attribute [local irreducible] wpList wpQuiet
open Go.RowKit
set_option linter.unusedSimpArgs false
set_option linter.unusedVariables false

theorem runs_end {L : List Int} {i : Nat} (h : ¬ i < L.length) : runs L i = some 0 := by rw [runs, dif_neg h]
theorem runs_bad {L : List Int} {i : Nat} (h : i < L.length) (hk : runK L i = 0) : runs L i = none := by rw [runs, dif_pos h, if_pos hk]
theorem runs_step {L : List Int} {i : Nat} (h : i < L.length) (hk : runK L i ≠ 0) : runs L i = (runs L (i + runK L i)).map (· + 1) := by rw [runs, dif_pos h, if_neg hk]
/-- So many runes ahead of a place. -/
def Ran (L : List Int) (i n : Nat) : Prop := runs L 0 = (runs L i).map (· + n)
theorem Ran.zero (L : List Int) : Ran L 0 0 := by
 unfold Ran
 cases runs L 0 <;> rfl
theorem Ran.step {L : List Int} {i n : Nat} (h : Ran L i n) (hi : i < L.length) (hk : runK L i ≠ 0) : Ran L (i + runK L i) (n + 1) := by
 unfold Ran at h ⊢
 rw [h, runs_step hi hk]
 cases runs L (i + runK L i) with
 | none => rfl
 | some m => simp; omega
theorem Ran.bad {L : List Int} {i n : Nat} (h : Ran L i n) (hi : i < L.length) (hk : runK L i = 0) : runs L 0 = none := by
 unfold Ran at h
 rw [h, runs_bad hi hk]
 rfl
theorem Ran.done {L : List Int} {i n : Nat} (h : Ran L i n) (hi : ¬ i < L.length) : runs L 0 = some n := by
 unfold Ran at h
 rw [h, runs_end hi]
 simp
def runsV : Option Nat → Value
 | none => .tuple #[.int .i64 0, .bool false]
 | some n => .tuple #[.int .i64 n, .bool true]
theorem eql_i0 {ρ : Operand → Value} {o : Oper} {x y : Operand} (ho : o.op = .binOp .eql 3 x y 3) (a : Int) {t : Bool} (ht : decide (a = 0) = t) (hx : ρ x = .int .i64 a) (hy : ρ y = .int .i64 0) (w : World) : (execOp ρ o).run Tryz.prog w = .ok (.value (.bool t)) w := by
 have e : (a == 0) = t := ht
 unfold execOp
 simp only [ho, hx, hy]
 go_simp
set_option maxRecDepth 100000 in
set_option maxHeartbeats 8000000 in
theorem ref_runes (s : ByteArray) (w : World) (hl : s.size ≤ 140737488355328) : Calls Tryz.prog 82 #[.string s] w fun e w' => e = .returned (runsV (runs (nums s) 0)) ∧ w = w' := by
 have HR := Lib.hid (fun (i : Nat) (V : World) (hi : i < s.size) => ref_rune s i V hi hl)
 have HL := Lib.hid (nums_len s)
 obtain ⟨L, hL⟩ : ∃ L, nums s = L := ⟨_, rfl⟩
 rw [hL] at HR HL ⊢
 have HR0 := Lib.hid (Ran.zero L)
 obtain ⟨r, hr⟩ : ∃ r, runs L 0 = r := ⟨_, rfl⟩
 have HRV := Lib.hid hr
 rw [hr]
 clear hL hr
 obtain ⟨n, hn⟩ : ∃ n, s.size = n := ⟨_, rfl⟩
 rw [hn] at hl
 go_enter Tryz.func82, Tryz.ntmps82
 go_upto_region 1 with fail
 refine wl <| gz1 (.int .i64 0) <| wn ?_
 simp only [pu]
 go_upto_region 2 with fail
 refine wl <| gz1 (.int .i64 0) <| wn ?_
 simp only [pu]
 go_wp2_with fail
 go_loopg [4, 5] n (fun gg s4 s5 wx => ∃ i m : Nat, s4 = .int .i64 m ∧ s5 = .int .i64 i ∧ i ≤ n ∧ m ≤ i ∧ Hid (Ran L i m) ∧ wx = w ∧ n - i ≤ gg)
 case atStart => exact ⟨0, 0, rfl, rfl, by omega, by omega, HR0, rfl, by omega⟩
 case round =>
  obtain ⟨i, m, rfl, rfl, hi, hmi, HM, rfl, hg⟩ := hrel
  clear HR0
  by_cases hlt : i < n
  ·have HD : Hid (decide ((i : Int) < (n : Int)) = true) := Lib.hid dT
   have CR := HR.out i wr (by omega)
   have hk4 := run_le L i
   have hkl := run_len (L := L) (i := i) (by rw [HL.out]; omega)
   have HST := Lib.hid (HM.out.step (by rw [HL.out]; omega))
   have HBD := Lib.hid (HM.out.bad (by rw [HL.out]; omega))
   rw [HL.out] at hkl
   clear HM
   generalize runK L i = k at *
   go_upto_region 3 with fail
   refine wl <| gz2 (.int .i64 i) (.string s) <| gzv (.int .i64 n) (by rw [← hn]; kernel_rfl) <| gzw (.bool true) (lss_n rfl i n HD.out) <| wn ?_
   simp only [pu]
   go_upto_region 4 with fail
   refine wl <| gz2 (.string s) (.int .i64 i) <| gzc (.int .i64 k) (fun w' => wr = w') CR (fun W hW => ?_)
   subst hW
   simp only [pu]
   refine gz1 (.int .i64 k) <| wn ?_
   simp only [pu]
   go_upto_region 5 with fail
   by_cases h0 : k = 0
   ·have HE : Hid (r = none) := Lib.hid (by rw [← HRV.out]; exact HBD.out h0)
    subst h0
    clear HST HBD HRV CR HR
    refine wl <| gz1 (.int .i64 (0 : Nat)) <| gzw (.bool true) (eql_i0 rfl 0 rfl) <| wn ?_
    simp only [pu]
    go_upto_region 6 with fail
    refine wl <| gz2 (.int .i64 0) (.bool false) <| wn ?_
    simp only [pu]
    go_wp2_with fail
    go_ret2
    rw [HE.out]
    exact ⟨rfl, rfl⟩
   ·have HS2 := Lib.hid (HST.out h0)
    have HG : Hid (i < n ∧ 0 < k ∧ i + k ≤ n ∧ n - i ≤ gk) := Lib.hid ⟨hlt, by omega, by rw [← hn]; exact hkl, hg⟩
    clear HST HBD CR hg
    refine wl <| gz1 (.int .i64 k) <| gzb (eql_i0 rfl k dF) <| wn ?_
    simp only [pu]
    go_upto_region 7 with fail
    refine wl <| gz2 (.int .i64 i) (.int .i64 k) <| gzw (.int .i64 (i + k : Nat)) (add_nat rfl i k (by omega)) <| gz1 (.int .i64 (i + k : Nat)) <| wn ?_
    simp only [pu]
    go_upto_region 8 with fail
    refine wl <| gz1 (.int .i64 m) <| gzw (.int .i64 (m + 1 : Nat)) (add_nat rfl m 1 (by omega)) <| gz1 (.int .i64 (m + 1 : Nat)) <| wn ?_
    simp only [pu]
    go_wp2_with fail
    go_roundg (n - (i + k))
    case measure => have := HG.out; omega
    case rel => exact ⟨i + k, m + 1, rfl, rfl, HG.out.2.2.1, by have := HG.out; omega, HS2, rfl, Nat.le_refl _⟩
  ·have HD : Hid (decide ((i : Int) < (n : Int)) = false) := Lib.hid dF
   have HE : Hid (r = some m) := Lib.hid (by rw [← HRV.out]; exact HM.out.done (by rw [HL.out]; omega))
   clear HM HRV HR hg
   go_upto_region 3 with fail
   refine wl <| gz2 (.int .i64 i) (.string s) <| gzv (.int .i64 n) (by rw [← hn]; kernel_rfl) <| gzw (.bool false) (lss_n rfl i n HD.out) <| wn ?_
   simp only [pu]
   go_upto_region 9 with fail
   refine wl <| gz3 (.int .i64 m) (.int .i64 m) (.bool true) <| wn ?_
   simp only [pu]
   go_wp2_with fail
   go_ret2
   rw [HE.out]
   exact ⟨rfl, rfl⟩
set_option maxRecDepth 100000 in
set_option maxHeartbeats 8000000 in
theorem ref_ismemo (s : ByteArray) (w : World) (hl : s.size ≤ 140737488355328) : Calls Tryz.prog 64 #[.string s] w fun e w' => e = .returned (.bool (isMemo (nums s))) ∧ w = w' := by
 have CS := ref_runes s w hl
 unfold isMemo
 generalize runs (nums s) 0 = r at *
 cases r with
 | none =>
  have CS : Calls Tryz.prog 82 #[.string s] w fun e w2 => e = .returned (.tuple #[.int .i64 0, .bool false]) ∧ w = w2 := CS
  have HE : Hid (False → False) := Lib.hid id
  go_enter Tryz.func64, Tryz.ntmps64
  go_upto_region 1 with fail
  refine wl <| gz1 (.string s) <| gzc (.tuple #[.int .i64 0, .bool false]) (fun w' => w = w') CS (fun W hW => ?_)
  subst hW
  simp only [pu]
  refine gz5 (.tuple #[.int .i64 0, .bool false]) (.int .i64 0) (.bool false) (.int .i64 0) (.bool false) <| wn ?_
  simp only [pu]
  clear CS
  go_upto_region 2 with fail
  refine wl <| gz6 (.bool false) (.bool false) undef undef (.bool false) (.bool false) <| wn ?_
  simp only [pu]
  go_wp2_with fail
  go_ret
  exact ⟨rfl, rfl⟩
 | some n =>
  have CS : Calls Tryz.prog 82 #[.string s] w fun e w2 => e = .returned (.tuple #[.int .i64 n, .bool true]) ∧ w = w2 := CS
  obtain ⟨t, ht⟩ : ∃ t, decide (n ≤ 64) = t := ⟨_, rfl⟩
  have H2 : Hid (decide ((n : Int) ≤ (64 : Int)) = t) := Lib.hid (by rw [← ht]; exact decide_eq_decide.2 (by omega))
  show Calls _ _ _ _ fun e w2 => e = .returned (.bool (decide (n ≤ 64))) ∧ w = w2
  rw [ht]
  clear ht
  go_enter Tryz.func64, Tryz.ntmps64
  go_upto_region 1 with fail
  refine wl <| gz1 (.string s) <| gzc (.tuple #[.int .i64 n, .bool true]) (fun w' => w = w') CS (fun W hW => ?_)
  subst hW
  simp only [pu]
  refine gz5 (.tuple #[.int .i64 n, .bool true]) (.int .i64 n) (.bool true) (.int .i64 n) (.bool true) <| wn ?_
  simp only [pu]
  clear CS
  go_upto_region 2 with fail
  refine wl <| gz3 (.bool true) (.bool true) (.int .i64 n) <| gzw (.bool t) (leq_n rfl n 64 H2.out) <| gz2 (.bool t) (.bool t) <| wn ?_
  simp only [pu]
  go_wp2_with fail
  go_ret
  exact ⟨rfl, rfl⟩
end Go.Proofs.YtglglhcnofbagaaGreat
namespace Go.Proofs.YtglglhcnofbagaaGreat
attribute [local irreducible] wpList wpQuiet
open Go.RowKit
set_option linter.unusedSimpArgs false
set_option linter.unusedVariables false

set_option maxRecDepth 100000 in
set_option maxHeartbeats 4000000 in
theorem ref_isname (s : ByteArray) (w : World) (hl : s.size ≤ 140737488355328) : Calls Tryz.prog 46 #[.string s] w fun e w' => e = .returned (.bool (isName (nums s))) ∧ w = w' := by
 have HIX := Lib.hid (fun (i : Nat) (h : i < s.size) => str_at s i h)
 have HL := Lib.hid (nums_len s)
 obtain ⟨L, hL⟩ : ∃ L, nums s = L := ⟨_, rfl⟩
 rw [hL] at HIX HL ⊢
 have HNO := Lib.hid (fun i (h : i < L.length) => all_no h)
 have HYES := Lib.hid (@all_yes L)
 clear hL
 obtain ⟨n, hn⟩ : ∃ n, s.size = n := ⟨_, rfl⟩
 go_enter Tryz.func46, Tryz.ntmps46
 go_upto_region 1 with fail
 refine wl <| gz1 (.int .i64 0) <| wn ?_
 simp only [pu]
 go_wp2_with fail
 go_loopg [3] n (fun gg s3 wx => ∃ i : Nat, s3 = .int .i64 i ∧ i ≤ n ∧ (∀ j, j < i → nmB (L.getD j 0) = true) ∧ wx = w ∧ n - i = gg)
 case atStart => exact ⟨0, rfl, by omega, fun j hj => by omega, rfl, by omega⟩
 case round =>
  obtain ⟨i, rfl, hi, hyes, rfl, hg⟩ := hrel
  by_cases hlt : i < n
  ·have HG : Hid (n - (i + 1) = gk - 1 ∧ 0 < gk ∧ i + 1 ≤ n) := Lib.hid ⟨by omega, by omega, by omega⟩
   have hix := HIX.out i (by omega)
   have hno := HNO.out i (by rw [HL.out]; omega)
   obtain ⟨c, hc⟩ : ∃ c, L.getD i 0 = c := ⟨_, rfl⟩
   rw [hc] at hix hno
   have HYS : Hid (nmB c = true → ∀ j, j < i + 1 → nmB (L.getD j 0) = true) := Lib.hid fun hb j hj => by
    by_cases e : j = i
    ·rw [e, hc]; exact hb
    ·exact hyes j (by omega)
   have HD : Hid (decide ((i : Int) < (n : Int)) = true) := Lib.hid dT
   clear hc hyes hg
   go_upto_region 2 with fail
   refine wl <| gz2 (.int .i64 i) (.string s) <| gzv (.int .i64 n) (by rw [← hn]; kernel_rfl) <| gzw (.bool true) (lss_n rfl i n HD.out) <| wn ?_
   simp only [pu]
   go_upto_region 4 with fail
   refine wl <| gz2 (.string s) (.int .i64 i) <| gzv (.int .u8 c) (hix _ _ _ _ rfl (by kernel_rfl) (by kernel_rfl) _) <| gz1 (.int .u8 c) <| wn ?_
   simp only [pu]
   go_upto_region 5 with fail
   have hcl : (97 ≤ c ∧ c ≤ 122) ∨ (48 ≤ c ∧ c ≤ 57) ∨ (c = 45) ∨ (122 < c) ∨ (57 < c ∧ c < 97) ∨ (c < 48 ∧ c ≠ 45) := by omega
   rcases hcl with hc | hc | hc | hc | hc | hc
   ·apply wp_region_lit
    refine gz1 (.int .u8 c) <| gzb (geq_u rfl c 97 dT) <| gz2 (.bool true) (.int .u8 c) <| gzb (leq_u rfl c 122 dT) <|
     gz6 (.bool true) (.bool true) undef undef undef undef <| gz6 undef undef (.bool true) (.bool true) undef undef <| gz2 (.bool true) (.bool false) <| wn ?_
    simp only [pu]
    have HY2 := Lib.hid (HYS.out (by simp only [nmB, Bool.or_eq_true, Bool.and_eq_true, decide_eq_true_eq]; omega))
    clear hno HYS hix HIX
    go_upto_region 3 with fail
    refine wl <| gz1 (.int .i64 i) <| gzw (.int .i64 (i + 1 : Nat)) (add_nat rfl i 1 (by omega)) <| gz1 (.int .i64 (i + 1 : Nat)) <| wn ?_
    simp only [pu]
    go_wp2_with fail
    go_roundg (gk - 1)
    case measure => have := HG.out; omega
    case rel => exact ⟨i + 1, rfl, HG.out.2.2, HY2.out, rfl, HG.out.1⟩
   ·apply wp_region_lit
    refine gz1 (.int .u8 c) <| gzb (geq_u rfl c 97 dF) <| gz6 (.bool false) undef undef (.bool false) (.bool false) (.int .u8 c) <|
     gzb (geq_u rfl c 48 dT) <| gz2 (.bool true) (.int .u8 c) <| gzb (leq_u rfl c 57 dT) <|
     gz6 (.bool true) (.bool true) (.bool true) undef undef (.bool true) <| gz1 (.bool false) <| wn ?_
    simp only [pu]
    have HY2 := Lib.hid (HYS.out (by simp only [nmB, Bool.or_eq_true, Bool.and_eq_true, decide_eq_true_eq]; omega))
    clear hno HYS hix HIX
    go_upto_region 3 with fail
    refine wl <| gz1 (.int .i64 i) <| gzw (.int .i64 (i + 1 : Nat)) (add_nat rfl i 1 (by omega)) <| gz1 (.int .i64 (i + 1 : Nat)) <| wn ?_
    simp only [pu]
    go_wp2_with fail
    go_roundg (gk - 1)
    case measure => have := HG.out; omega
    case rel => exact ⟨i + 1, rfl, HG.out.2.2, HY2.out, rfl, HG.out.1⟩
   ·apply wp_region_lit
    refine gz1 (.int .u8 c) <| gzb (geq_u rfl c 97 dF) <| gz6 (.bool false) undef undef (.bool false) (.bool false) (.int .u8 c) <|
     gzb (geq_u rfl c 48 dF) <| gz6 (.bool false) undef undef (.bool false) (.bool false) (.bool false) <| gz1 (.int .u8 c) <|
     gzb (eql_u rfl c 45 dT) <| gz2 (.bool true) (.bool false) <| wn ?_
    simp only [pu]
    have HY2 := Lib.hid (HYS.out (by simp only [nmB, Bool.or_eq_true, Bool.and_eq_true, decide_eq_true_eq]; omega))
    clear hno HYS hix HIX
    go_upto_region 3 with fail
    refine wl <| gz1 (.int .i64 i) <| gzw (.int .i64 (i + 1 : Nat)) (add_nat rfl i 1 (by omega)) <| gz1 (.int .i64 (i + 1 : Nat)) <| wn ?_
    simp only [pu]
    go_wp2_with fail
    go_roundg (gk - 1)
    case measure => have := HG.out; omega
    case rel => exact ⟨i + 1, rfl, HG.out.2.2, HY2.out, rfl, HG.out.1⟩
   ·apply wp_region_lit
    refine gz1 (.int .u8 c) <| gzb (geq_u rfl c 97 dT) <| gz2 (.bool true) (.int .u8 c) <| gzb (leq_u rfl c 122 dF) <|
     gz3 (.bool false) (.bool false) (.int .u8 c) <| gzb (geq_u rfl c 48 dT) <| gz2 (.bool true) (.int .u8 c) <| gzb (leq_u rfl c 57 dF) <|
     gz4 (.bool false) (.bool false) (.bool false) (.int .u8 c) <| gzb (eql_u rfl c 45 dF) <| gz2 (.bool false) (.bool true) <| wn ?_
    simp only [pu]
    have HE := Lib.hid (hno (by rw [Bool.eq_false_iff]; simp only [ne_eq, nmB, Bool.or_eq_true, Bool.and_eq_true, decide_eq_true_eq]; omega))
    clear hno HYS hix HIX
    go_upto_region 6 with fail
    refine wl <| gz1 (.bool false) <| wn ?_
    simp only [pu]
    go_wp2_with fail
    go_ret
    rw [HE.out]
    exact ⟨rfl, rfl⟩
   ·apply wp_region_lit
    refine gz1 (.int .u8 c) <| gzb (geq_u rfl c 97 dF) <| gz6 (.bool false) undef undef (.bool false) (.bool false) (.int .u8 c) <|
     gzb (geq_u rfl c 48 dT) <| gz2 (.bool true) (.int .u8 c) <| gzb (leq_u rfl c 57 dF) <|
     gz4 (.bool false) (.bool false) (.bool false) (.int .u8 c) <| gzb (eql_u rfl c 45 dF) <| gz2 (.bool false) (.bool true) <| wn ?_
    simp only [pu]
    have HE := Lib.hid (hno (by rw [Bool.eq_false_iff]; simp only [ne_eq, nmB, Bool.or_eq_true, Bool.and_eq_true, decide_eq_true_eq]; omega))
    clear hno HYS hix HIX
    go_upto_region 6 with fail
    refine wl <| gz1 (.bool false) <| wn ?_
    simp only [pu]
    go_wp2_with fail
    go_ret
    rw [HE.out]
    exact ⟨rfl, rfl⟩
   ·apply wp_region_lit
    refine gz1 (.int .u8 c) <| gzb (geq_u rfl c 97 dF) <| gz6 (.bool false) undef undef (.bool false) (.bool false) (.int .u8 c) <|
     gzb (geq_u rfl c 48 dF) <| gz6 (.bool false) undef undef (.bool false) (.bool false) (.bool false) <| gz1 (.int .u8 c) <|
     gzb (eql_u rfl c 45 dF) <| gz2 (.bool false) (.bool true) <| wn ?_
    simp only [pu]
    have HE := Lib.hid (hno (by rw [Bool.eq_false_iff]; simp only [ne_eq, nmB, Bool.or_eq_true, Bool.and_eq_true, decide_eq_true_eq]; omega))
    clear hno HYS hix HIX
    go_upto_region 6 with fail
    refine wl <| gz1 (.bool false) <| wn ?_
    simp only [pu]
    go_wp2_with fail
    go_ret
    rw [HE.out]
    exact ⟨rfl, rfl⟩
  ·have HD : Hid (decide ((i : Int) < (n : Int)) = false) := Lib.hid dF
   have hall := HYES.out (fun j hj => hyes j (by rw [HL.out] at hj; omega))
   have HV : Hid (isName L = (decide (1 ≤ n) && decide (n ≤ 20))) := Lib.hid (by unfold isName; rw [hall, HL.out, hn]; rfl)
   clear hyes hall hg HIX HNO HYES
   go_upto_region 2 with fail
   refine wl <| gz2 (.int .i64 i) (.string s) <| gzv (.int .i64 n) (by rw [← hn]; kernel_rfl) <| gzw (.bool false) (lss_n rfl i n HD.out) <| wn ?_
   simp only [pu]
   go_upto_region 7 with fail
   by_cases h1 : 1 ≤ n
   ·have H1 : Hid (decide ((1 : Int) ≤ (n : Int)) = true) := Lib.hid dT
    obtain ⟨t, ht⟩ : ∃ t, decide (n ≤ 20) = t := ⟨_, rfl⟩
    have H2 : Hid (decide ((n : Int) ≤ (20 : Int)) = t) := Lib.hid (by rw [← ht]; exact decide_eq_decide.2 (by omega))
    have HE : Hid (isName L = t) := Lib.hid (by rw [HV.out, decide_eq_true h1, ht]; rfl)
    clear ht HV
    refine wl <| gz1 (.string s) <| gzv (.int .i64 n) (by rw [← hn]; kernel_rfl) <| gzw (.bool true) (geq_n rfl n 1 H1.out) <| gz2 (.bool true) (.string s) <| gzv (.int .i64 n) (by rw [← hn]; kernel_rfl) <|
     gzw (.bool t) (leq_n rfl n 20 H2.out) <| gz2 (.bool t) (.bool t) <| wn ?_
    simp only [pu]
    go_wp2_with fail
    go_ret
    rw [HE.out]
    exact ⟨rfl, rfl⟩
   ·have H1 : Hid (decide ((1 : Int) ≤ (n : Int)) = false) := Lib.hid dF
    have HE : Hid (isName L = false) := Lib.hid (by rw [HV.out, decide_eq_false h1]; rfl)
    clear HV
    refine wl <| gz1 (.string s) <| gzv (.int .i64 n) (by rw [← hn]; kernel_rfl) <| gzw (.bool false) (geq_n rfl n 1 H1.out) <| gz6 (.bool false) undef undef undef (.bool false) (.bool false) <| wn ?_
    simp only [pu]
    go_wp2_with fail
    go_ret
    rw [HE.out]
    exact ⟨rfl, rfl⟩
end Go.Proofs.YtglglhcnofbagaaGreat
