/-
  Set, the program's and the reference's; SameLedger of two equal ledgers: contracts. The reference's Sum: contract. Plain arithmetic of division of 128 bits by 64 bits, digit by digit of 32 bits: what the two quotient digits and the remainder are.
 Conditions: the divisor is normalized (its highest bit is set), the dividend's high half is less than the divisor. The contracts of the functions of math/bits that are called: Add64 with carry 0, Mul64, Len64 and LeadingZeros64, for every argument of 64 bits.
 Conditions: the arguments are numbers of 64 bits.
-/
import Derived.Test.YtglglhcnofbagaaJ17
import Derived.Test.YtglglhcnofbagaaJ1
import Derived.Test.YtglglhcnofbagaaProg
import Derived.WalkKit
import Derived.WalkSpells
import Derived.WalkLawsBesides
import Derived.Laws.Externs
import Derived.Laws.Bits64b
import Derived.Lib.Mul64
import Derived.Lib.BitFns
import Derived.Lib.Hide
import Derived.Laws.MathBits
namespace Go.Proofs.Ytglglhcnofbagaa.Lg
attribute [local irreducible] wpList wpQuiet
set_option maxRecDepth 100000
open Go.RowKit
set_option linter.unusedSimpArgs false
set_option linter.unusedVariables false

theorem set_e1 {A : List Ac} {c : Int} {a : Ac} (h : valE A c ≠ 0) : setX A c a = ([], 0, valE A c) := if_pos h
theorem set_e2 {A : List Ac} {c : Int} {a : Ac} (h : valE A c = 0) (h1 : isName (nums a.1) = false) : setX A c a = ([], 0, 10) := by
 unfold setX
 rw [if_neg (by rw [h]; simp), if_pos h1]
theorem set_e3 {A : List Ac} {c : Int} {a : Ac} (h : valE A c = 0) (h1 : isName (nums a.1) = true) (h2 : 256 < (putL A a).length) : setX A c a = ([], 0, 3) := by
 unfold setX
 rw [if_neg (by rw [h]; simp), if_neg (by rw [h1]; simp), if_pos h2]
theorem set_fin {A : List Ac} {c : Int} {a : Ac} (h : valE A c = 0) (h1 : isName (nums a.1) = true) (h2 : ¬ 256 < (putL A a).length) : setX A c a = cond (totB (putL A a) c) (putL A a, c, 0) ([], 0, 6) := by
 unfold setX
 rw [if_neg (by rw [h]; simp), if_neg (by rw [h1]; simp), if_neg h2]
 cases totB (putL A a) c <;> simp
theorem three_boxes (w : World) (x y z : Array Value) (t u v : Nat) : Below w.heap.size w (((w.alloc (.cells x t)).alloc (.cells y u)).alloc (.cells z v)) ∧ Bx (((w.alloc (.cells x t)).alloc (.cells y u)).alloc (.cells z v)) w.heap.size x t ∧ Bx (((w.alloc (.cells x t)).alloc (.cells y u)).alloc (.cells z v)) (w.heap.size + 1) y u ∧ Bx (((w.alloc (.cells x t)).alloc (.cells y u)).alloc (.cells z v)) (w.heap.size + 2) z v := by
 obtain ⟨h1, h2, h3⟩ := two_boxes w x y t u
 have hs : ((w.alloc (.cells x t)).alloc (.cells y u)).heap.size = w.heap.size + 2 := by simp
 have hb : Below ((w.alloc (.cells x t)).alloc (.cells y u)).heap.size ((w.alloc (.cells x t)).alloc (.cells y u)) (((w.alloc (.cells x t)).alloc (.cells y u)).alloc (.cells z v)) := (Below.refl _ _).alloc (Nat.le_refl _) _
 have hz : Bx (((w.alloc (.cells x t)).alloc (.cells y u)).alloc (.cells z v)) ((w.alloc (.cells x t)).alloc (.cells y u)).heap.size z v := heap_alloc_last _ _
 rw [hs] at hz
 exact ⟨h1.trans (hb.mono h1.size), h2.below h2.lt hb, h3.below h3.lt hb, hz⟩
theorem LedO.ok {w V : World} {ad : Option Addr} {m kk : Nat} {P : List Ac} {c : Int} (hl : P.length = m) (hr : V.ownsRow w.heap.size 24 3 (.slice ad m kk) P.length (acc P)) (hb : Below w.heap.size w V) : LedO w (P, c, 0) (.returned (.tuple #[.agg (lgA ad m kk c), .int .i64 0])) V := by
 subst hl
 exact ⟨ad, kk, rfl, hr, hb⟩
theorem own_eq {w w' : World} {B e s n : Nat} {v : Value} {xs : List Value} (h : w.ownsRow B e s v n xs) (hq : ∀ q, v.ownBlock = some q → w'.heap[q]? = w.heap[q]?) : w'.ownsRow B e s v n xs := by
 refine ⟨h.1, ?_⟩
 rcases h.2 with h1 | ⟨g, cap, cur, rfl, hB, hg, r⟩
 ·exact .inl h1
 ·exact .inr ⟨g, cap, cur, rfl, hB, (hq g rfl).trans hg, r⟩
set_option maxRecDepth 100000 in
set_option maxHeartbeats 8000000 in
theorem q_set (a : Option Addr) (k : Nat) (A : List Ac) (c : Int) (x : Ac) (w : World) (hR : Cs w a (acc A)) (hk : A.length ≤ k) (hn : A.length ≤ 4398046511104) (hc : W64 c) (hw : AcW A) (hz : ∀ x, x ∈ A → x.1.size ≤ 140737488355328) (hxw : W64 x.2.1 ∧ W64 x.2.2) (hxz : x.1.size ≤ 140737488355328) :
  Calls Try.prog 59 #[.agg (lgA a A.length k c), .agg (acA x)] w (LedO w (setX A c x)) := by
 obtain ⟨hb0, hX0, hY0, hZ0⟩ := three_boxes w (lgA a A.length k c) (acA x) (lgA none 0 0 0) 27 24 27
 obtain ⟨W0, hW0⟩ : ∃ W0, ((w.alloc (.cells (lgA a A.length k c) 27)).alloc (.cells (acA x) 24)).alloc (.cells (lgA none 0 0 0) 27) = W0 := ⟨_, rfl⟩
 rw [hW0] at hb0 hX0 hY0 hZ0
 have HA := Lib.hid (hR.below hb0)
 have CV := q_validate a k A c W0 (hR.below hb0) hn hc hw hz
 have CN := fun V => q_isname x.1 V
 have HPL := Lib.hid (fun V (h1 : Srt A) (h2 : A.length ≤ 1000000) (h : Cs V a (acc A)) => q_place a k A x.1 V h h1 h2)
 have HCL := Lib.hid (fun V (h2 : A.length ≤ 1000) (h : Cs V a (acc A)) => q_clone a k A V h (by omega))
 have HIN := Lib.hid (fun (v : Value) (B : Nat) (V : World) (h : RowA V B v A) (h1 : B ≤ V.heap.size) (h2 : A.length ≤ 1000) => q_insert v A x (lesL A x.1) B V h h1 (les_le A x.1) h2)
 have HLI := Lib.hid (fun (ad : Option Addr) (kk : Nat) (V : World) (h : Cs V ad (acc (putL A x))) (h1 : (putL A x).length ≤ 4398046511104) => q_limited ad kk (putL A x) c V h h1 hc (put_w hw hxw))
 have HPF := Lib.hid (@put_found A x)
 have HPN := Lib.hid (@put_new A x)
 have HFL := Lib.hid (fun (h : Srt A) (hf : fndL A x.1 < A.length) => srt_fnd h hf)
 obtain ⟨r, hr⟩ : ∃ r, setX A c x = r := ⟨_, rfl⟩
 have HE1 : Hid (valE A c ≠ 0 → r = ([], 0, valE A c)) := Lib.hid fun h => by rw [← hr]; exact set_e1 h
 have HE2 : Hid (valE A c = 0 → isName (nums x.1) = false → r = ([], 0, 10)) := Lib.hid fun h h1 => by rw [← hr]; exact set_e2 h h1
 have HE3 : Hid (valE A c = 0 → isName (nums x.1) = true → 256 < (putL A x).length → r = ([], 0, 3)) := Lib.hid fun h h1 h2 => by rw [← hr]; exact set_e3 h h1 h2
 have HE4 : Hid (valE A c = 0 → isName (nums x.1) = true → ¬ 256 < (putL A x).length → r = cond (totB (putL A x) c) (putL A x, c, 0) ([], 0, 6)) := Lib.hid fun h h1 h2 => by rw [← hr]; exact set_fin h h1 h2
 have HOK := Lib.hid (@valE_ok A c)
 have HFU := Lib.hid (@put_full A x)
 rw [hr]
 obtain ⟨n, hnn⟩ : ∃ n, A.length = n := ⟨_, rfl⟩
 have HN := Lib.hid hnn
 have HKK : Hid (n ≤ k) := Lib.hid (by omega)
 rw [hnn] at hX0 hW0 CV HOK HFU
 rw [hnn]
 generalize hnm : isName (nums x.1) = nm at *
 generalize hve : valE A c = ve at *
 have HW00 := Lib.hid hW0
 clear hR hn hr hw hz hc hxw hxz hk hnm hve hW0
 go_enter Try.func59, Try.ntmps59
 go_upto_region 1 with fail
 change Code.wp _ _ _ _ (((w.alloc (.cells (lgA a n k c) 27)).alloc (.cells (acA x) 24)).alloc (.cells (lgA none 0 0 0) 27))
 rw [HW00.out]
 clear HW00
 obtain ⟨g0, hg0⟩ : ∃ g0, w.heap.size = g0 := ⟨_, rfl⟩
 obtain ⟨g1, hg1⟩ : ∃ g1, w.heap.size + 1 = g1 := ⟨_, rfl⟩
 obtain ⟨g2, hg2⟩ : ∃ g2, w.heap.size + 2 = g2 := ⟨_, rfl⟩
 have HGG : Hid (w.heap.size ≤ g0 ∧ w.heap.size ≤ g2 ∧ g0 < W0.heap.size ∧ g1 < W0.heap.size ∧ g2 < W0.heap.size ∧ g1 ≠ g0 ∧ g2 ≠ g0 ∧ w.heap.size ≤ W0.heap.size) := Lib.hid ⟨by omega, by omega, by have := hX0.lt; omega, by have := hY0.lt; omega, by have := hZ0.lt; omega, by omega, by omega, hb0.size⟩
 have HB0 := Lib.hid hb0
 rw [hg0] at hX0
 rw [hg1] at hY0
 rw [hg2] at hZ0
 simp only [hg0]
 rw [show g0 + 1 = g1 by omega, show g1 + 1 = g2 by omega]
 have HX := Lib.hid hX0
 have HY := Lib.hid hY0
 have HZ := Lib.hid hZ0
 clear hb0 hg0 hg1 hg2 hX0 hY0 hZ0 hnn
 refine wl <| gzl rfl ⟨g0, 0, none⟩ (.agg (lgA a n k c)) (load_lg HX.out) <| gzc (.int .i64 ve) (fun w' => Below W0.heap.size W0 w') (CV) (fun V1 hV1 => ?_)
 have HX1 := Lib.hid (HX.out.below HX.out.lt hV1)
 have HY1 := Lib.hid (HY.out.below HY.out.lt hV1)
 have HZ1 := Lib.hid (HZ.out.below HZ.out.lt hV1)
 have HB1 := Lib.hid (HB0.out.trans (hV1.mono HB0.out.size))
 have HA1 := Lib.hid (HA.out.below hV1)
 have HW1 : Hid (W0.heap.size ≤ V1.heap.size) := Lib.hid hV1.size
 simp only [pu]
 refine gz1 (.int .i64 ve) <| wn ?_
 simp only [pu]
 clear CV hV1 HX HY HZ HB0 HA
 by_cases hv : ve = 0
 ·skip
  subst hv
  obtain ⟨h256, hsrt, hnmd, -⟩ := HOK.out rfl
  have HSR := Lib.hid hsrt
  have H256 := Lib.hid h256
  clear hsrt hnmd h256 HE1 HOK
  go_upto_region 2 with fail
  refine wl <| gz1 (.int .i64 0) <| gzb (neq_e rfl 0 0 (decide_eq_true rfl)) <| wn ?_
  simp only [pu]
  have CN1 := CN V1
  clear CN
  go_upto_region 4 with fail
  cases nm
  ·skip
   refine wl <| gz1 (.pointer (some ⟨g1, 0, none⟩)) <| gzl rfl ⟨g1, 0, none⟩ (.string x.1) (HY1.out.load (i := 0) rfl (by kernel_rfl)) <| gzc (.bool false) (fun w' => Below V1.heap.size V1 w') (CN1) (fun V2 hV2 => ?_)
   replace HX1 := Lib.hid (HX1.out.below HX1.out.lt hV2)
   replace HY1 := Lib.hid (HY1.out.below HY1.out.lt hV2)
   replace HZ1 := Lib.hid (HZ1.out.below HZ1.out.lt hV2)
   replace HB1 := Lib.hid (HB1.out.trans (hV2.mono HB1.out.size))
   replace HA1 := Lib.hid (HA1.out.below hV2)
   replace HW1 : Hid (W0.heap.size ≤ V2.heap.size) := Lib.hid (Nat.le_trans HW1.out hV2.size)
   simp only [pu]
   refine gz1 (.bool true) <| wn ?_
   simp only [pu]
   clear CN1 hV2
   obtain rfl := HE2.out rfl rfl
   have hst := store_lg (a' := none) (n' := 0) (k' := 0) (c' := 0) HZ1.out
   have HB9 := Lib.hid (belowRow HB1.out HGG.out.2.1 (lgA none 0 0 0))
   have HLD := Lib.hid (load_lg hst.2)
   have hst1 := hst.1
   generalize World.setRow V2 g2 (lgA none 0 0 0) = V9 at *
   clear hst
   go_upto_region 5 with fail
   refine wl <| gz1 (.agg #[.slice none 0 0, .int .u64 0]) <| gzs rfl (hst1) <| gz1 (.int .i64 10) <| wn ?_
   simp only [pu]
   clear hst1
   go_wp2_with fail
   exact bodyPost_ret (results_c (p := 4) (q := 5) rfl (by kernel_rfl) HLD.out rfl) rfl (LedO.err HB9.out)
  ·skip
   refine wl <| gz1 (.pointer (some ⟨g1, 0, none⟩)) <| gzl rfl ⟨g1, 0, none⟩ (.string x.1) (HY1.out.load (i := 0) rfl (by kernel_rfl)) <| gzc (.bool true) (fun w' => Below V1.heap.size V1 w') (CN1) (fun V2 hV2 => ?_)
   replace HX1 := Lib.hid (HX1.out.below HX1.out.lt hV2)
   replace HY1 := Lib.hid (HY1.out.below HY1.out.lt hV2)
   replace HZ1 := Lib.hid (HZ1.out.below HZ1.out.lt hV2)
   replace HB1 := Lib.hid (HB1.out.trans (hV2.mono HB1.out.size))
   replace HA1 := Lib.hid (HA1.out.below hV2)
   replace HW1 : Hid (W0.heap.size ≤ V2.heap.size) := Lib.hid (Nat.le_trans HW1.out hV2.size)
   simp only [pu]
   refine gz1 (.bool false) <| wn ?_
   simp only [pu]
   clear CN1 hV2
   have HE3r := Lib.hid (HE3.out rfl rfl)
   have HE4r := Lib.hid (HE4.out rfl rfl)
   have HFR := Lib.hid (HFU.out H256.out)
   clear HE2 HE3 HE4 HFU
   have CP := HPL.out V2 HSR.out (by rw [HN.out]; have := H256.out; omega) HA1.out
   rw [HN.out] at CP
   by_cases hf : fndL A x.1 < n
   ·skip
    rw [decide_eq_true hf] at CP
    have hle := les_le A x.1
    rw [HN.out] at hle
    have hfl := HFL.out HSR.out (by rw [HN.out]; exact hf)
    go_upto_region 6 with fail
    refine wl <| gz1 (.pointer (some ⟨g0, 0, none⟩)) <| gzl rfl ⟨g0, 0, none⟩ (.slice a n k) (HX1.out.load (i := 0) rfl (by kernel_rfl)) <| gz1 (.pointer (some ⟨g1, 0, none⟩)) <| gzl rfl ⟨g1, 0, none⟩ (.string x.1) (HY1.out.load (i := 0) rfl (by kernel_rfl)) <|
     gzc (.tuple #[.int .i64 (lesL A x.1 : Nat), .bool true]) (fun w' => Below V2.heap.size V2 w') (CP) (fun V3 hV3 => ?_)
    simp only [pu]
    refine gz5 (.tuple #[.int .i64 (lesL A x.1 : Nat), .bool true]) (.int .i64 (lesL A x.1 : Nat)) (.bool true) (.int .i64 (lesL A x.1 : Nat)) (.bool true) <| wn ?_
    simp only [pu]
    replace HX1 := Lib.hid (HX1.out.below HX1.out.lt hV3)
    replace HY1 := Lib.hid (HY1.out.below HY1.out.lt hV3)
    replace HZ1 := Lib.hid (HZ1.out.below HZ1.out.lt hV3)
    replace HB1 := Lib.hid (HB1.out.trans (hV3.mono HB1.out.size))
    replace HA1 := Lib.hid (HA1.out.below hV3)
    replace HW1 : Hid (W0.heap.size ≤ V3.heap.size) := Lib.hid (Nat.le_trans HW1.out hV3.size)
    clear CP hV3
    go_upto_region 7 with fail
    refine wl <| gz6 (.bool true) (.bool false) (.bool false) undef undef undef <| gz2 undef (.bool false) <| wn ?_
    simp only [pu]
    have CC := HCL.out V3 (by rw [HN.out]; have := H256.out; omega) HA1.out
    rw [HN.out] at CC
    go_upto_region 9 with fail
    refine wl <| gz1 (.pointer (some ⟨g0, 0, none⟩)) <| gzl rfl ⟨g0, 0, none⟩ (.slice a n k) (HX1.out.load (i := 0) rfl (by kernel_rfl)) <| gze (fun v w' => RowA w' V3.heap.size v A ∧ Below V3.heap.size V3 w') CC (fun v5 V5 hq => ?_)
    obtain ⟨hr5, hb5⟩ := hq
    obtain ⟨a5, k5, rfl, -, -⟩ := hr5.cs
    rw [HN.out]
    obtain ⟨V6, hst6, hbx6, hb6, hbt6⟩ := st_row (a' := a5) (n' := n) (k' := k5) (HX1.out.below HX1.out.lt hb5) (B := w.heap.size) (w0 := w) (HB1.out.trans (hb5.mono HB1.out.size)) HGG.out.1
    have hr6 : V6.ownsRow W0.heap.size 24 3 (.slice a5 n k5) n (acc A) := by have := own_base (own_but hr5 hbt6 (Nat.lt_of_lt_of_le HGG.out.2.2.1 HW1.out)) HW1.out; rwa [HN.out] at this
    have HY6 := Lib.hid ((HY1.out.below HY1.out.lt hb5).but hbt6 HGG.out.2.2.2.2.2.1)
    have HZ6 := Lib.hid ((HZ1.out.below HZ1.out.lt hb5).but hbt6 HGG.out.2.2.2.2.2.2.1)
    have HB6 := Lib.hid hb6
    have HX6 := Lib.hid hbx6
    have HW6 : Hid (W0.heap.size ≤ V6.heap.size) := Lib.hid (Nat.le_trans HW1.out (Nat.le_trans hb5.size hbt6.1.size))
    have HR6 := Lib.hid hr6
    simp only [pu]
    refine gz1 (.pointer (some ⟨g0, 0, none⟩)) <| gzs rfl (hst6) <| wn ?_
    simp only [pu]
    clear hr5 hb5 hst6 hbx6 hb6 hbt6 hr6 CC HX1 HY1 HZ1 HB1 HA1 HW1
    go_upto_region 10 with fail
    refine wl <| gz1 (.bool true) <| wn ?_
    simp only [pu]
    obtain ⟨g5, e5, hg5, -⟩ := own_at HR6.out (by omega)
    subst e5
    obtain ⟨V7, hst7, hr7, hb7, hbt7⟩ := set_ac (show RowA V6 W0.heap.size (.slice (some ⟨g5, 0, none⟩) n k5) A by unfold RowA; rw [HN.out]; exact HR6.out) HN.out.symm (i := lesL A x.1) (by rw [HN.out]; omega) x
    rw [hfl, ← HPF.out (by rw [HN.out]; exact hf)] at hr7
    have hpl : (putL A x).length = n := by rw [put_len, if_pos (by rw [HN.out]; exact hf)]; exact HN.out
    have HXB := Lib.hid HX6.out
    have HX7 := Lib.hid (HX6.out.below HGG.out.2.2.1 hb7)
    have HZ7 := Lib.hid (HZ6.out.below HGG.out.2.2.2.2.1 hb7)
    have HB7 := Lib.hid (HB6.out.trans (hb7.mono HGG.out.2.2.2.2.2.2.2))
    have HR7 := Lib.hid hr7
    have HL7 := Lib.hid hpl
    clear hg5 hr7 hb7 hbt7 HX6 HZ6 HB6 HR6 hpl
    go_upto_region 11 with fail
    refine wl <| gz1 (.pointer (some ⟨g0, 0, none⟩)) <| gzl rfl ⟨g0, 0, none⟩ (.slice (some ⟨g5, 0, none⟩) n k5) (HXB.out.load (i := 0) rfl (by kernel_rfl)) <| gz1 (.int .i64 (lesL A x.1 : Nat)) <| gzl rfl ⟨g1, 0, none⟩ (.agg (acA x)) (load_acb HY6.out) <|
     gzv (.pointer (some ⟨g5, 0 + lesL A x.1 * 3, none⟩)) (idx_ac g5 0 n k5 (lesL A x.1) (by omega) _ _ _ rfl (by kernel_rfl) (by kernel_rfl)) <| gzs rfl (hst7) <| wn ?_
    simp only [pu]
    clear hst7 HXB HY6
    have hr9 := HR7.out
    obtain ⟨a9, k9, e9, hc9, -⟩ := hr9.cs
    rw [HL7.out] at e9
    simp only [Value.slice.injEq, true_and] at e9
    obtain ⟨rfl, rfl⟩ := e9
    have CT := HLI.out (some ⟨g5, 0, none⟩) k5 V7 hc9 (by rw [HL7.out]; have := H256.out; omega)
    have HER := HE4r.out (by intro h; have := HFR.out.1 h; exact this.1 hf)
    generalize hP : putL A x = P at *
    generalize totB P c = tb at *
    rw [HL7.out] at CT
    clear hr9 hc9 HE4r HE3r HFR
    go_upto_region 13 with fail
    cases tb
    ·skip
     obtain rfl := HER
     refine wl <| gzl rfl ⟨g0, 0, none⟩ (.agg (lgA (some ⟨g5, 0, none⟩) n k5 c)) (load_lg HX7.out) <| gzc (.tuple #[.agg (lgA none 0 0 0), .int .i64 6]) (fun w' => Below V7.heap.size V7 w') CT (fun V10 hV10 => ?_)
     have HZ10 := Lib.hid (HZ7.out.below HZ7.out.lt hV10)
     have HB10 := Lib.hid (HB7.out.trans (hV10.mono HB7.out.size))
     have hst := store_lg (a' := none) (n' := 0) (k' := 0) (c' := 0) HZ10.out
     have HB9 := Lib.hid (belowRow HB10.out HGG.out.2.1 (lgA none 0 0 0))
     have HLD := Lib.hid (load_lg hst.2)
     have hst1 := hst.1
     generalize World.setRow V10 g2 (lgA none 0 0 0) = V9 at *
     clear hst
     simp only [pu]
     refine gz2 (.agg (lgA none 0 0 0)) (.int .i64 6) <| gzs rfl (hst1) <| gz1 (.int .i64 6) <| wn ?_
     simp only [pu]
     clear hst1 CT hV10
     go_wp2_with fail
     exact bodyPost_ret (results_c (p := 4) (q := 5) rfl (by kernel_rfl) HLD.out rfl) rfl (LedO.err HB9.out)
    ·skip
     obtain rfl := HER
     refine wl <| gzl rfl ⟨g0, 0, none⟩ (.agg (lgA (some ⟨g5, 0, none⟩) n k5 c)) (load_lg HX7.out) <| gzc (.tuple #[.agg (lgA (some ⟨g5, 0, none⟩) n k5 c), .int .i64 0]) (fun w' => Below V7.heap.size V7 w') CT (fun V10 hV10 => ?_)
     have HZ10 := Lib.hid (HZ7.out.below HZ7.out.lt hV10)
     have HB10 := Lib.hid (HB7.out.trans (hV10.mono HB7.out.size))
     have hst := store_lg (a' := (some ⟨g5, 0, none⟩)) (n' := n) (k' := k5) (c' := c) HZ10.out
     have HB9 := Lib.hid (belowRow HB10.out HGG.out.2.1 (lgA (some ⟨g5, 0, none⟩) n k5 c))
     have HLD := Lib.hid (load_lg hst.2)
     have hst1 := hst.1
     have HE := Lib.hid (own_but (own_below HR7.out hV10) (But.setRow V10 (g := g2) (lgA (some ⟨g5, 0, none⟩) n k5 c)) HGG.out.2.2.2.2.1)
     generalize World.setRow V10 g2 (lgA (some ⟨g5, 0, none⟩) n k5 c) = V9 at *
     clear hst
     simp only [pu]
     refine gz2 (.agg (lgA (some ⟨g5, 0, none⟩) n k5 c)) (.int .i64 0) <| gzs rfl (hst1) <| gz1 (.int .i64 0) <| wn ?_
     simp only [pu]
     clear hst1 CT hV10
     go_wp2_with fail
     exact bodyPost_ret (results_c (p := 4) (q := 5) rfl (by kernel_rfl) HLD.out rfl) rfl (LedO.ok HL7.out (own_base HE.out HGG.out.2.2.2.2.2.2.2) HB9.out)
   ·skip
    rw [decide_eq_false hf] at CP
    have hle := les_le A x.1
    rw [HN.out] at hle
    go_upto_region 6 with fail
    refine wl <| gz1 (.pointer (some ⟨g0, 0, none⟩)) <| gzl rfl ⟨g0, 0, none⟩ (.slice a n k) (HX1.out.load (i := 0) rfl (by kernel_rfl)) <| gz1 (.pointer (some ⟨g1, 0, none⟩)) <| gzl rfl ⟨g1, 0, none⟩ (.string x.1) (HY1.out.load (i := 0) rfl (by kernel_rfl)) <|
     gzc (.tuple #[.int .i64 (lesL A x.1 : Nat), .bool false]) (fun w' => Below V2.heap.size V2 w') (CP) (fun V3 hV3 => ?_)
    simp only [pu]
    refine gz5 (.tuple #[.int .i64 (lesL A x.1 : Nat), .bool false]) (.int .i64 (lesL A x.1 : Nat)) (.bool false) (.int .i64 (lesL A x.1 : Nat)) (.bool false) <| wn ?_
    simp only [pu]
    replace HX1 := Lib.hid (HX1.out.below HX1.out.lt hV3)
    replace HY1 := Lib.hid (HY1.out.below HY1.out.lt hV3)
    replace HZ1 := Lib.hid (HZ1.out.below HZ1.out.lt hV3)
    replace HB1 := Lib.hid (HB1.out.trans (hV3.mono HB1.out.size))
    replace HA1 := Lib.hid (HA1.out.below hV3)
    replace HW1 : Hid (W0.heap.size ≤ V3.heap.size) := Lib.hid (Nat.le_trans HW1.out hV3.size)
    clear CP hV3
    by_cases h25 : n = 256
    ·skip
     obtain rfl := HE3r.out (HFR.out.2 ⟨hf, h25⟩)
     go_upto_region 7 with fail
     refine wl <| gz4 (.bool false) (.bool true) (.bool true) (.pointer (some ⟨g0, 0, none⟩)) <| gzl rfl ⟨g0, 0, none⟩ (.slice a n k) (HX1.out.load (i := 0) rfl (by kernel_rfl)) <| gz1 (.int .i64 n) <|
      gzb (eql_n rfl n 256 dT) <| gz1 (.bool true) <| wn ?_
     simp only [pu]
     have hst := store_lg (a' := none) (n' := 0) (k' := 0) (c' := 0) HZ1.out
     have HB9 := Lib.hid (belowRow HB1.out HGG.out.2.1 (lgA none 0 0 0))
     have HLD := Lib.hid (load_lg hst.2)
     have hst1 := hst.1
     generalize World.setRow V3 g2 (lgA none 0 0 0) = V9 at *
     clear hst
     go_upto_region 8 with fail
     refine wl <| gz1 (.agg #[.slice none 0 0, .int .u64 0]) <| gzs rfl (hst1) <| gz1 (.int .i64 3) <| wn ?_
     simp only [pu]
     clear hst1
     go_wp2_with fail
     exact bodyPost_ret (results_c (p := 4) (q := 5) rfl (by kernel_rfl) HLD.out rfl) rfl (LedO.err HB9.out)
    ·skip
     go_upto_region 7 with fail
     refine wl <| gz4 (.bool false) (.bool true) (.bool true) (.pointer (some ⟨g0, 0, none⟩)) <| gzl rfl ⟨g0, 0, none⟩ (.slice a n k) (HX1.out.load (i := 0) rfl (by kernel_rfl)) <| gz1 (.int .i64 n) <|
      gzb (eql_n rfl n 256 dF) <| gz1 (.bool false) <| wn ?_
     simp only [pu]
     have CC := HCL.out V3 (by rw [HN.out]; have := H256.out; omega) HA1.out
     rw [HN.out] at CC
     go_upto_region 9 with fail
     refine wl <| gz1 (.pointer (some ⟨g0, 0, none⟩)) <| gzl rfl ⟨g0, 0, none⟩ (.slice a n k) (HX1.out.load (i := 0) rfl (by kernel_rfl)) <| gze (fun v w' => RowA w' V3.heap.size v A ∧ Below V3.heap.size V3 w') CC (fun v5 V5 hq => ?_)
     obtain ⟨hr5, hb5⟩ := hq
     obtain ⟨a5, k5, rfl, -, -⟩ := hr5.cs
     rw [HN.out]
     obtain ⟨V6, hst6, hbx6, hb6, hbt6⟩ := st_row (a' := a5) (n' := n) (k' := k5) (HX1.out.below HX1.out.lt hb5) (B := w.heap.size) (w0 := w) (HB1.out.trans (hb5.mono HB1.out.size)) HGG.out.1
     have hr6 : V6.ownsRow W0.heap.size 24 3 (.slice a5 n k5) n (acc A) := by have := own_base (own_but hr5 hbt6 (Nat.lt_of_lt_of_le HGG.out.2.2.1 HW1.out)) HW1.out; rwa [HN.out] at this
     have HY6 := Lib.hid ((HY1.out.below HY1.out.lt hb5).but hbt6 HGG.out.2.2.2.2.2.1)
     have HZ6 := Lib.hid ((HZ1.out.below HZ1.out.lt hb5).but hbt6 HGG.out.2.2.2.2.2.2.1)
     have HB6 := Lib.hid hb6
     have HX6 := Lib.hid hbx6
     have HW6 : Hid (W0.heap.size ≤ V6.heap.size) := Lib.hid (Nat.le_trans HW1.out (Nat.le_trans hb5.size hbt6.1.size))
     have HR6 := Lib.hid hr6
     simp only [pu]
     refine gz1 (.pointer (some ⟨g0, 0, none⟩)) <| gzs rfl (hst6) <| wn ?_
     simp only [pu]
     clear hr5 hb5 hst6 hbx6 hb6 hbt6 hr6 CC HX1 HY1 HZ1 HB1 HA1 HW1
     go_upto_region 10 with fail
     refine wl <| gz1 (.bool false) <| wn ?_
     simp only [pu]
     have CI := HIN.out (.slice a5 n k5) W0.heap.size V6 (by unfold RowA; rw [HN.out]; exact HR6.out) HW6.out (by rw [HN.out]; have := H256.out; omega)
     rw [← HPN.out (by rw [HN.out]; exact hf)] at CI
     have hpl : (putL A x).length = n + 1 := by rw [put_len, if_neg (by rw [HN.out]; exact hf), HN.out]
     go_upto_region 12 with fail
     refine wl <| gz1 (.pointer (some ⟨g0, 0, none⟩)) <| gzl rfl ⟨g0, 0, none⟩ (.slice a5 n k5) (HX6.out.load (i := 0) rfl (by kernel_rfl)) <| gz1 (.int .i64 (lesL A x.1 : Nat)) <| gzl rfl ⟨g1, 0, none⟩ (.agg (acA x)) (load_acb HY6.out) <|
      gze (fun v w' => RowA w' W0.heap.size v (putL A x) ∧ Below W0.heap.size V6 w') CI (fun v7 V7 hq => ?_)
     obtain ⟨hr7, hb7⟩ := hq
     obtain ⟨a7, k7, rfl, -, -⟩ := hr7.cs
     rw [hpl]
     obtain ⟨V8, hst8, hbx8, hb8, hbt8⟩ := st_row (a' := a7) (n' := n + 1) (k' := k7) (HX6.out.below HGG.out.2.2.1 hb7) (B := w.heap.size) (w0 := w) (HB6.out.trans (hb7.mono HGG.out.2.2.2.2.2.2.2)) HGG.out.1
     have HR7 : Hid (RowA V8 W0.heap.size (.slice a7 (n + 1) k7) (putL A x)) := Lib.hid (by rw [← hpl]; exact own_but hr7 hbt8 HGG.out.2.2.1)
     have HX7 := Lib.hid hbx8
     have HZ7 := Lib.hid ((HZ6.out.below HGG.out.2.2.2.2.1 hb7).but hbt8 HGG.out.2.2.2.2.2.2.1)
     have HB7 := Lib.hid hb8
     simp only [pu]
     refine gz1 (.pointer (some ⟨g0, 0, none⟩)) <| gzs rfl (hst8) <| wn ?_
     simp only [pu]
     have HL7 := Lib.hid hpl
     clear hr7 hb7 hst8 hbx8 hb8 hbt8 CI HX6 HY6 HZ6 HB6 HR6 hpl
     have hr9 := HR7.out
     obtain ⟨a9, k9, e9, hc9, -⟩ := hr9.cs
     rw [HL7.out] at e9
     simp only [Value.slice.injEq, true_and] at e9
     obtain ⟨rfl, rfl⟩ := e9
     have CT := HLI.out a7 k7 V8 hc9 (by rw [HL7.out]; have := H256.out; omega)
     have HER := HE4r.out (by intro h; have := HFR.out.1 h; exact h25 this.2)
     generalize hP : putL A x = P at *
     generalize totB P c = tb at *
     rw [HL7.out] at CT
     clear hr9 hc9 HE4r HE3r HFR
     go_upto_region 13 with fail
     cases tb
     ·skip
      obtain rfl := HER
      refine wl <| gzl rfl ⟨g0, 0, none⟩ (.agg (lgA a7 (n + 1) k7 c)) (load_lg HX7.out) <| gzc (.tuple #[.agg (lgA none 0 0 0), .int .i64 6]) (fun w' => Below V8.heap.size V8 w') CT (fun V10 hV10 => ?_)
      have HZ10 := Lib.hid (HZ7.out.below HZ7.out.lt hV10)
      have HB10 := Lib.hid (HB7.out.trans (hV10.mono HB7.out.size))
      have hst := store_lg (a' := none) (n' := 0) (k' := 0) (c' := 0) HZ10.out
      have HB9 := Lib.hid (belowRow HB10.out HGG.out.2.1 (lgA none 0 0 0))
      have HLD := Lib.hid (load_lg hst.2)
      have hst1 := hst.1
      generalize World.setRow V10 g2 (lgA none 0 0 0) = V9 at *
      clear hst
      simp only [pu]
      refine gz2 (.agg (lgA none 0 0 0)) (.int .i64 6) <| gzs rfl (hst1) <| gz1 (.int .i64 6) <| wn ?_
      simp only [pu]
      clear hst1 CT hV10
      go_wp2_with fail
      exact bodyPost_ret (results_c (p := 4) (q := 5) rfl (by kernel_rfl) HLD.out rfl) rfl (LedO.err HB9.out)
     ·skip
      obtain rfl := HER
      refine wl <| gzl rfl ⟨g0, 0, none⟩ (.agg (lgA a7 (n + 1) k7 c)) (load_lg HX7.out) <| gzc (.tuple #[.agg (lgA a7 (n + 1) k7 c), .int .i64 0]) (fun w' => Below V8.heap.size V8 w') CT (fun V10 hV10 => ?_)
      have HZ10 := Lib.hid (HZ7.out.below HZ7.out.lt hV10)
      have HB10 := Lib.hid (HB7.out.trans (hV10.mono HB7.out.size))
      have hst := store_lg (a' := a7) (n' := (n + 1)) (k' := k7) (c' := c) HZ10.out
      have HB9 := Lib.hid (belowRow HB10.out HGG.out.2.1 (lgA a7 (n + 1) k7 c))
      have HLD := Lib.hid (load_lg hst.2)
      have hst1 := hst.1
      have HE := Lib.hid (own_but (own_below HR7.out hV10) (But.setRow V10 (g := g2) (lgA a7 (n + 1) k7 c)) HGG.out.2.2.2.2.1)
      generalize World.setRow V10 g2 (lgA a7 (n + 1) k7 c) = V9 at *
      clear hst
      simp only [pu]
      refine gz2 (.agg (lgA a7 (n + 1) k7 c)) (.int .i64 0) <| gzs rfl (hst1) <| gz1 (.int .i64 0) <| wn ?_
      simp only [pu]
      clear hst1 CT hV10
      go_wp2_with fail
      exact bodyPost_ret (results_c (p := 4) (q := 5) rfl (by kernel_rfl) HLD.out rfl) rfl (LedO.ok HL7.out (own_base HE.out HGG.out.2.2.2.2.2.2.2) HB9.out)
 ·skip
  obtain rfl := HE1.out hv
  go_upto_region 2 with fail
  refine wl <| gz1 (.int .i64 ve) <| gzb (neq_e rfl ve 0 (decide_eq_false hv)) <| wn ?_
  simp only [pu]
  have hst := store_lg (a' := none) (n' := 0) (k' := 0) (c' := 0) HZ1.out
  have HB9 := Lib.hid (belowRow HB1.out HGG.out.2.1 (lgA none 0 0 0))
  have HLD := Lib.hid (load_lg hst.2)
  have hst1 := hst.1
  generalize World.setRow V1 g2 (lgA none 0 0 0) = V9 at *
  clear hst
  go_upto_region 3 with fail
  refine wl <| gz2 (.agg #[.slice none 0 0, .int .u64 0]) (.int .i64 ve) <| gzs rfl (hst1) <| gz1 (.int .i64 ve) <| wn ?_
  simp only [pu]
  clear hst1
  go_wp2_with fail
  exact bodyPost_ret (results_c (p := 4) (q := 5) rfl (by kernel_rfl) HLD.out rfl) rfl (LedO.err HB9.out)
/-- What the region keeps in which the new ledger is made. -/
structure K6 (W : World) (P : List Ac) (c : Int) (b3 b6 b7 b8 : Bool) (x24 x7 : Value) (V : World) : Prop where
 bel : Below W.heap.size W V
 row : b3 = true → RowA V W.heap.size x24 P
 o3 : b8 = true → b3 = true
 o6 : b6 = true → b3 = true
 o7 : b8 = true → b7 = true
 box : b7 = true → ∃ g, x7 = .pointer (some ⟨g, 0, none⟩) ∧ W.heap.size ≤ g ∧ (b8 = false → Bx V g (lgA none 0 0 0) 27) ∧ (b3 = true → x24.ownBlock ≠ some g) ∧ (b8 = true → ∃ ad kk, x24 = .slice ad P.length kk ∧ Bx V g (lgA ad P.length kk c) 27)
theorem K6.alloc {W : World} {P : List Ac} {c : Int} {b3 b6 b8 : Bool} {x24 x7 : Value} {V : World} (h : K6 W P c b3 b6 false b8 x24 x7 V) : K6 W P c b3 b6 true b8 x24 (.pointer (some ⟨V.heap.size, 0, none⟩)) (V.alloc (.cells (lgA none 0 0 0) 27)) := by
 obtain rfl := ff h.o7 rfl
 have hb : Below V.heap.size V (V.alloc (.cells (lgA none 0 0 0) 27)) := (Below.refl _ V).alloc (Nat.le_refl _) _
 exact ⟨h.bel.trans (hb.mono h.bel.size), fun e => own_below (h.row e) hb, (fun e => nomatch e), h.o6, (fun e => nomatch e), fun _ => ⟨V.heap.size, rfl, h.bel.size, fun _ => heap_alloc_last V _, fun e e2 => Nat.lt_irrefl _ (World.ownsRow.lt (h.row e) _ e2).2, (fun e => nomatch e)⟩⟩
theorem K6.call {W : World} {P : List Ac} {c : Int} {b6 b7 b8 : Bool} {x24 x7 v : Value} {V V2 : World} (h : K6 W P c false b6 b7 b8 x24 x7 V) (hr : RowA V2 V.heap.size v P) (hb : Below V.heap.size V V2) : K6 W P c true b6 b7 b8 v x7 V2 := by
 obtain rfl := ff h.o3 rfl
 exact ⟨h.bel.trans (hb.mono h.bel.size), fun _ => own_base hr h.bel.size, (fun e => nomatch e), fun _ => rfl, (fun e => nomatch e), fun e => by
  obtain ⟨g, h1, h2, h3, -, -⟩ := h.box e
  have h4 := h3 rfl
  exact ⟨g, h1, h2, fun _ => h4.below h4.lt hb, fun _ e2 => by have := (World.ownsRow.lt hr _ e2).1; have := h4.lt; omega, (fun e => nomatch e)⟩⟩
theorem K6.store {W : World} {P : List Ac} {c : Int} {b6 : Bool} {x24 x7 : Value} {V : World} (h : K6 W P c true b6 true false x24 x7 V) : ∃ g ad kk V2, x7 = .pointer (some ⟨g, 0, none⟩) ∧ x24 = .slice ad P.length kk ∧ (Instr.storeAt 27 (.pointer (some ⟨g, 0, none⟩)) (.agg (lgA ad P.length kk c))).run Try.prog V = .ok () V2 ∧ K6 W P c true b6 true true (.slice ad P.length kk) (.pointer (some ⟨g, 0, none⟩)) V2 := by
 obtain ⟨g, rfl, h2, h3, h4, -⟩ := h.box rfl
 obtain ⟨ad, kk, rfl, -, -⟩ := (h.row rfl).cs
 have hst := store_lg (a' := ad) (n' := P.length) (k' := kk) (c' := c) (h3 rfl)
 refine ⟨g, ad, kk, _, rfl, rfl, hst.1, ⟨belowRow h.bel h2 _, fun _ => own_eq (h.row rfl) fun q hq => ?_, fun _ => rfl, fun _ => rfl, fun _ => rfl, fun _ => ⟨g, rfl, h2, (fun e => nomatch e), h4, fun _ => ⟨ad, kk, rfl, hst.2⟩⟩⟩⟩
 exact (But.setRow (g := g) V _).2 q (World.ownsRow.lt (h.row rfl) q hq).2 (fun e => h4 rfl (e ▸ hq))
theorem neq_u0 {ρ : Operand → Value} {o : Oper} {x y : Operand} (ho : o.op = .binOp .neq 22 x y 22) (a : Int) (hx : ρ x = .int .u64 a) (hy : ρ y = .int .u64 a) (w : World) : (execOp ρ o).run Try.prog w = .ok (.value (.bool false)) w := by
 unfold execOp
 simp only [ho, hx, hy]
 go_simp
theorem neq_ac0 {ρ : Operand → Value} {o : Oper} {x y : Operand} (ho : o.op = .binOp .neq 24 x y 24) (a : Ac) (hx : ρ x = .agg (acA a)) (hy : ρ y = .agg (acA a)) (w : World) : (execOp ρ o).run Try.prog w = .ok (.value (.bool false)) w := by
 unfold execOp
 simp only [ho, hx, hy]
 go_simp
set_option maxRecDepth 100000 in
set_option maxHeartbeats 8000000 in
theorem ref_sameled (A : List Ac) (c : Int) (a1 a2 : Option Addr) (c1 c2 : Nat) (w : World) (h1 : Cs w a1 (acc A)) (h2 : Cs w a2 (acc A)) (hn : A.length ≤ 4398046511104) :
  Calls Try.prog 8 #[.agg (lgA a1 A.length c1 c), .agg (lgA a2 A.length c2 c)] w fun e w' => e = .returned (.bool true) ∧ Below w.heap.size w w' := by
 obtain ⟨hb0, hX0, hY0⟩ := two_boxes w (lgA a1 A.length c1 c) (lgA a2 A.length c2 c) 27 27
 have HA1 := Lib.hid (h1.below hb0)
 have HA2 := Lib.hid (h2.below hb0)
 obtain ⟨n, hnn⟩ : ∃ n, A.length = n := ⟨_, rfl⟩
 have HN := Lib.hid hnn
 rw [hnn] at hb0 hX0 hY0 HA1 HA2 hn ⊢
 clear hnn h1 h2
 go_enter Try.func8, Try.ntmps8
 go_upto_region 1 with fail
 change Code.wp _ _ _ _ ((w.alloc (.cells (lgA a1 n c1 c) 27)).alloc (.cells (lgA a2 n c2 c) 27))
 generalize (w.alloc (.cells (lgA a1 n c1 c) 27)).alloc (.cells (lgA a2 n c2 c) 27) = W at *
 obtain ⟨g0, hg0⟩ : ∃ g0, w.heap.size = g0 := ⟨_, rfl⟩
 obtain ⟨g2, hg2⟩ : ∃ g2, w.heap.size + 1 = g2 := ⟨_, rfl⟩
 have HB0 := Lib.hid hb0
 rw [hg2] at hY0
 rw [hg0] at hX0
 simp only [hg0]
 rw [show g0 + 1 = g2 by omega]
 have HX := Lib.hid hX0
 have HY := Lib.hid hY0
 clear hb0 hg0 hg2 hX0 hY0
 refine wl <| gz1 (.pointer (some ⟨g0, 0, none⟩)) <| gzl rfl ⟨g0, 0, none⟩ (.slice a1 n c1) (HX.out.load (i := 0) rfl (by kernel_rfl)) <| gz2 (.int .i64 n) (.pointer (some ⟨g2, 0, none⟩)) <| gzl rfl ⟨g2, 0, none⟩ (.slice a2 n c2) (HY.out.load (i := 0) rfl (by kernel_rfl)) <|
  gz1 (.int .i64 n) <| gzb (neq_n rfl n n (decide_eq_true rfl)) <| gz2 (.bool false) (.pointer (some ⟨g0, 1, none⟩)) <| gzl rfl ⟨g0, 1, none⟩ (.int .u64 c) (HX.out.load (i := 1) rfl (by kernel_rfl)) <| gz1 (.pointer (some ⟨g2, 1, none⟩)) <|
  gzl rfl ⟨g2, 1, none⟩ (.int .u64 c) (HY.out.load (i := 1) rfl (by kernel_rfl)) <| gzw (.bool false) (neq_u0 rfl c) <| gz1 (.bool false) <| wn ?_
 simp only [pu]
 go_upto_region 3 with fail
 refine wl <| gz1 (.pointer (some ⟨g0, 0, none⟩)) <| gzl rfl ⟨g0, 0, none⟩ (.slice a1 n c1) (HX.out.load (i := 0) rfl (by kernel_rfl)) <| gz2 (.int .i64 n) (.int .i64 0) <| wn ?_
 simp only [pu]
 go_wp2_with fail
 go_loopg [23] n (fun gg s23 wx => ∃ j : Nat, s23 = .int .i64 j ∧ j ≤ n ∧ Hid (Below W.heap.size W wx) ∧ n - j = gg)
 case atStart => exact ⟨0, rfl, by omega, Lib.hid (Below.refl _ _), by omega⟩
 case round =>
  obtain ⟨j, rfl, hj, HB, hg⟩ := hrel
  by_cases hlt : j < n
  ·skip
   have HG : Hid (n - (j + 1) = gk - 1 ∧ 0 < gk ∧ j + 1 ≤ n ∧ j + 1 ≤ 4398046511104) := Lib.hid ⟨by omega, by omega, by omega, by omega⟩
   have hjm : j < A.length := by rw [HN.out]; exact hlt
   obtain ⟨b1, o1, rfl, -, hr1⟩ := ac_range (HA1.out.below HB.out) (k := j) hjm
   obtain ⟨b2, o2, rfl, -, hr2⟩ := ac_range (HA2.out.below HB.out) (k := j) hjm
   have HL1 : Hid ((Instr.loadAt 24 (.pointer (some ⟨b1, o1 + j * 3, none⟩))).run Try.prog wr.drew = .ok (.agg (acA (aca A j))) wr.drew) := Lib.hid (load_ac (w := wr.drew) hr1)
   have HL2 : Hid ((Instr.loadAt 24 (.pointer (some ⟨b2, o2 + j * 3, none⟩))).run Try.prog wr.drew = .ok (.agg (acA (aca A j))) wr.drew) := Lib.hid (load_ac (w := wr.drew) hr2)
   have HX9 := Lib.hid (HX.out.below HX.out.lt HB.out.drew)
   have HY9 := Lib.hid (HY.out.below HY.out.lt HB.out.drew)
   have HB9 := Lib.hid HB.out.drew
   generalize aca A j = y at *
   clear hr1 hr2 hjm hg HB
   go_upto_region 4 with fail
   refine wl <| gzb (lss_n rfl (j) (n) dT) <| wn ?_
   simp only [pu]
   go_upto_region 5 with fail
   refine wl <| gz2 (.int .i64 j) (.int .i64 j) <| wn ?_
   simp only [pu]
   go_upto_region 6 with fail
   refine wp_region_class (C := fun U => U = wr.drew) (by kernel_rfl) (by kernel_rfl) (rfl) ?_
   refine gy (.pointer (some ⟨g0, 0, none⟩)) <| gyl rfl ⟨g0, 0, none⟩ (.slice (some ⟨b1, o1, none⟩) n c1) (fun U hU => by rw [hU]; exact HX9.out.load (i := 0) rfl (by kernel_rfl)) <| gy (.int .i64 j) <|
     gyv (.pointer (some ⟨b1, o1 + j * 3, none⟩)) (fun U hU => idx_ac b1 o1 n c1 j hlt _ _ _ rfl (by kernel_rfl) (by kernel_rfl)) <| gyl rfl ⟨b1, o1 + j * 3, none⟩ (.agg (acA y)) (fun U hU => by rw [hU]; exact HL1.out) <| gy (.pointer (some ⟨g2, 0, none⟩)) <|
     gyl rfl ⟨g2, 0, none⟩ (.slice (some ⟨b2, o2, none⟩) n c2) (fun U hU => by rw [hU]; exact HY9.out.load (i := 0) rfl (by kernel_rfl)) <| gy (.int .i64 j) <| gyv (.pointer (some ⟨b2, o2 + j * 3, none⟩)) (fun U hU => idx_ac b2 o2 n c2 j hlt _ _ _ rfl (by kernel_rfl) (by kernel_rfl)) <|
     gyl rfl ⟨b2, o2 + j * 3, none⟩ (.agg (acA y)) (fun U hU => by rw [hU]; exact HL2.out) <| gyv (.bool false) (fun U hU => neq_ac0 rfl y (by kernel_rfl) (by kernel_rfl) _) ?_
   simp only [pu]
   apply wpQuiet_nil
   intro U hU
   subst hU
   clear HL1 HL2 HX9 HY9
   go_upto_region 8 with fail
   refine wl <| gzw (.int .i64 (j + 1 : Nat)) (add_nat rfl j 1 (by have := HG.out; omega)) <| gz1 (.int .i64 (j + 1 : Nat)) <| wn ?_
   simp only [pu]
   go_wp2_with fail
   go_roundg (gk - 1)
   case measure => have := HG.out; omega
   case rel => exact ⟨j + 1, rfl, HG.out.2.2.1, HB9, HG.out.1⟩
  ·skip
   have HB9 := Lib.hid (HB0.out.trans (HB.out.mono HB0.out.size))
   clear HB hg
   go_upto_region 4 with fail
   refine wl <| gzb (lss_n rfl (j) (n) dF) <| wn ?_
   simp only [pu]
   go_upto_region 9 with fail
   refine wl <| gz1 (.bool true) <| wn ?_
   simp only [pu]
   go_wp2_with fail
   go_ret
   exact ⟨rfl, HB9.out⟩
end Go.Proofs.Ytglglhcnofbagaa.Lg
namespace Go.Proofs.Ytglglhcnofbagaa.Lg
set_option maxRecDepth 100000
open Go.RowKit
set_option linter.unusedVariables false

set_option maxHeartbeats 1000000 in
theorem ref_sum (a : Option Addr) (cap : Nat) (l : List Int) (w : World) (hl : l.length ≤ 9223372036854775807) (hc : ∀ k, k < l.length → ∃ b off, a = some ⟨b, off, none⟩ ∧ w.cell? ⟨b, off + k, none⟩ = some (.int .u64 (l.getD k 0))) (hw : ∀ k, k < l.length → W64 (l.getD k 0)) :
  Calls Try.prog 43 #[.slice a l.length cap] w fun e w' => e = .returned (.tuple #[.int .u64 (sumV l), .bool (sumB l)]) ∧ w = w' := by
 go_enter Try.func43, Try.ntmps43
 go_wp2_with fail
 go_loopg [4, 11] l.length (fun g s4 s11 wx => w = wx ∧ ∃ k : Nat, k ≤ l.length ∧ s4 = .int .u64 (tot (l.take k)) ∧ s11 = .int .i64 k ∧ l.length - k = g ∧ Hid (tot (l.take k) < 18446744073709551616))
 case atStart => exact ⟨rfl, 0, by omega, rfl, rfl, rfl, Lib.hid (by simp [tot])⟩
 case round =>
  obtain ⟨rfl, k, hk, rfl, rfl, rfl, ht⟩ := hrel
  by_cases hlt : k < l.length
  ·obtain ⟨b, off, ea, hcell⟩ := hc k hlt
   have hx := hw k hlt
   have hts := tot_succ l k hlt
   have ht0 := tot_nonneg (l.take k) (fun x hx => (mem_bound l hw x (List.mem_of_mem_take hx)).1)
   have hA := fun w => ref_add (tot (l.take k)) (l.getD k 0) w ⟨ht0, by have := ht.out; omega⟩ hx
   have hle := tot_take_le l hw (k + 1)
   obtain ⟨x, hxe⟩ : ∃ x, l.getD k 0 = x := ⟨_, rfl⟩
   obtain ⟨t, hte⟩ : ∃ t, tot (l.take k) = t := ⟨_, rfl⟩
   rw [hxe] at hcell hx hts hA
   rw [hte] at hts hA ht0 ht
   rw [hts] at hle
   rw [hte]
   subst ea
   clear hxe hte hc hw
   by_cases hs : t + x < 18446744073709551616
   ·have e1 : addV t x = t + x := if_pos hs
    have e2 : addB t x = true := decide_eq_true hs
    rw [e1, e2] at hA
    have HS := Lib.hid hts
    have hs' := Lib.hid hs
    clear e1 e2 hts hle
    go_wp2_with (go_at_call 60; refine (hA _).mono ?_; rintro e w' ⟨rfl, rfl⟩)
    go_roundg (l.length - (k + 1))
    case measure => omega
    case rel => exact ⟨rfl, k + 1, by omega, by rw [HS.out], by first | rfl | go_num, rfl, by rw [HS.out]; exact hs'⟩
   ·have e1 : addV t x = 0 := if_neg hs
    have e2 : addB t x = false := decide_eq_false hs
    rw [e1, e2] at hA
    have f1 := Lib.hid (show sumV l = 0 from if_neg (by omega))
    have f2 := Lib.hid (show sumB l = false from decide_eq_false (by omega))
    clear e1 e2 hts hle
    go_wp2_with (go_at_call 60; refine (hA _).mono ?_; rintro e w' ⟨rfl, rfl⟩)
    go_ret2
    exact ⟨by rw [f1.out, f2.out]; rfl, rfl⟩
  ·obtain rfl : k = l.length := by omega
   rw [List.take_length] at ht ⊢
   have f1 := Lib.hid (show sumV l = tot l from if_pos ht.out)
   have f2 := Lib.hid (show sumB l = true from decide_eq_true ht.out)
   clear hc hw
   go_wp2_with fail
   go_ret2
   exact ⟨by rw [f1.out, f2.out]; rfl, rfl⟩


end Go.Proofs.Ytglglhcnofbagaa.Lg
namespace Go.Proofs.Ytglglhcnofbagaa.Mo.Ar
set_option maxRecDepth 100000

theorem mulV (q y1 y0 : Nat) : q * (y1 * 4294967296 + y0) = q * y1 * 4294967296 + q * y0 := by
 rw [Nat.mul_add, Nat.mul_assoc]

/-- The estimate is not too great: the test said no. -/
theorem exitA (u d y1 y0 q r : Nat) (hi : q * y1 + r = u) (h : q * y0 ≤ 4294967296 * r + d) : q * (y1 * 4294967296 + y0) ≤ u * 4294967296 + d := by
 rw [mulV]
 generalize q * y1 = a at *
 generalize q * y0 = b at *
 omega

/-- The estimate is too great: the test said yes. -/
theorem stepA (u d y1 y0 q r : Nat) (hi : q * y1 + r = u) (h : 4294967296 * r + d < q * y0) : u * 4294967296 + d < q * (y1 * 4294967296 + y0) := by
 rw [mulV]
 generalize q * y1 = a at *
 generalize q * y0 = b at *
 omega

/-- The rest has grown to a digit's range: the estimate is right. -/
theorem exitB (u d y1 y0 q r : Nat) (hi : q * y1 + r = u) (hr : 4294967296 ≤ r) (hq : q ≤ 4294967296) (hy : y0 < 4294967296) : q * (y1 * 4294967296 + y0) ≤ u * 4294967296 + d := by
 refine exitA u d y1 y0 q r hi ?_
 have := Nat.mul_le_mul hq (Nat.le_of_lt_succ (Nat.lt_succ_of_lt hy))
 omega

/-- What holds of an estimate q with its rest r at a loop's head. -/
def Est (u d y1 y0 q r : Nat) : Prop :=
 q * y1 + r = u ∧ (u * 4294967296 + d) / (y1 * 4294967296 + y0) ≤ q ∧ q ≤ 4294967297 ∧ r < 4294967296

theorem lt_digit (u d V : Nat) (hu : u < V) (hd : d < 4294967296) : (u * 4294967296 + d) / V < 4294967296 := by
 rw [Nat.div_lt_iff_lt_mul (by omega)]
 omega

theorem est_start (u d y1 y0 : Nat) (hy1 : 2147483648 ≤ y1) (hy1' : y1 < 4294967296) (hy0 : y0 < 4294967296) (hd : d < 4294967296) (hu : u < y1 * 4294967296 + y0) :
  Est u d y1 y0 (u / y1) (u % y1) := by
 have h1 : u / y1 * y1 + u % y1 = u := Nat.div_add_mod' u y1
 have h2 : u % y1 < y1 := Nat.mod_lt _ (by omega)
 refine ⟨h1, ?_, ?_, by omega⟩
 ·rw [← Nat.lt_succ_iff, Nat.div_lt_iff_lt_mul (by omega)]
  have := mulV (u / y1).succ y1 y0
  rw [this, Nat.succ_mul]
  generalize u / y1 * y1 = a at *
  have h0 : 0 ≤ (u / y1).succ * y0 := Nat.zero_le _
  generalize (u / y1).succ * y0 = b at *
  omega
 ·rw [← Nat.lt_succ_iff, Nat.div_lt_iff_lt_mul (by omega)]
  omega

theorem est_step (u d y1 y0 q r : Nat) (_hy1 : 2147483648 ≤ y1) (hu : u < y1 * 4294967296 + y0) (hd : d < 4294967296) (h : Est u d y1 y0 q r)
  (ht : 4294967296 ≤ q ∨ 4294967296 * r + d < q * y0) :
  1 ≤ q ∧ (q - 1) * y1 + (r + y1) = u ∧ (u * 4294967296 + d) / (y1 * 4294967296 + y0) ≤ q - 1 ∧ q - 1 ≤ 4294967296 := by
 obtain ⟨hi, hq, hq', hr⟩ := h
 have hlt := lt_digit u d (y1 * 4294967296 + y0) hu hd
 have hs : (u * 4294967296 + d) / (y1 * 4294967296 + y0) < q := by
  rcases ht with ht | ht
  ·exact Nat.lt_of_lt_of_le hlt ht
  ·rw [Nat.div_lt_iff_lt_mul (by omega)]
   exact stepA u d y1 y0 q r hi ht
 have hq1 : 1 ≤ q := Nat.lt_of_le_of_lt (Nat.zero_le _) hs
 have hq2 := Nat.le_sub_one_of_lt hs
 clear hs hlt hq
 obtain ⟨k, rfl⟩ : ∃ k, q = k + 1 := ⟨q - 1, by omega⟩
 refine ⟨by omega, ?_, hq2, by omega⟩
 rw [Nat.add_sub_cancel]
 rw [Nat.succ_mul] at hi
 omega

theorem est_exit (u d y1 y0 q : Nat) (hy1 : 2147483648 ≤ y1) (hq : (u * 4294967296 + d) / (y1 * 4294967296 + y0) ≤ q) (h : q * (y1 * 4294967296 + y0) ≤ u * 4294967296 + d) :
  q = (u * 4294967296 + d) / (y1 * 4294967296 + y0) := by
 have := (Nat.le_div_iff_mul_le (show 0 < y1 * 4294967296 + y0 by omega)).2 h
 omega

theorem est_exitA (u d y1 y0 q r : Nat) (hy1 : 2147483648 ≤ y1) (h : Est u d y1 y0 q r) (ht : q * y0 ≤ 4294967296 * r + d) :
  q = (u * 4294967296 + d) / (y1 * 4294967296 + y0) :=
 est_exit u d y1 y0 q hy1 h.2.1 (exitA u d y1 y0 q r h.1 ht)

theorem est_exitB (u d y1 y0 q r : Nat) (hy1 : 2147483648 ≤ y1) (hy0 : y0 < 4294967296) (hi : q * y1 + r = u) (hq : (u * 4294967296 + d) / (y1 * 4294967296 + y0) ≤ q) (hq' : q ≤ 4294967296) (hr : 4294967296 ≤ r) :
  q = (u * 4294967296 + d) / (y1 * 4294967296 + y0) :=
 est_exit u d y1 y0 q hy1 hq (exitB u d y1 y0 q r hi hr hq' hy0)

theorem rest_wrap' (u d V a b : Nat) (h1 : a + b = u * 4294967296 + d) (h2 : b < V) (hV' : V < 18446744073709551616) :
  (((u * 4294967296 % 18446744073709551616 + d) % 18446744073709551616 : Nat) - ((a % 18446744073709551616 : Nat) : Int)) % 18446744073709551616 = (b : Int) := by
 omega

/-- The rest of a digit, as the program reckons it modulo 2^64. -/
theorem rest_wrap (u d V : Nat) (hV : 0 < V) (hV' : V < 18446744073709551616) :
  (((u * 4294967296 % 18446744073709551616 + d) % 18446744073709551616 : Nat) - (((u * 4294967296 + d) / V * V % 18446744073709551616 : Nat) : Int)) % 18446744073709551616 = (((u * 4294967296 + d) % V : Nat) : Int) := by
 exact rest_wrap' u d V _ _ (Nat.div_add_mod' (u * 4294967296 + d) V) (Nat.mod_lt _ hV) hV'

theorem two_digits' (T p y u l1 l0 q1 r1 q0 r0 : Nat) (hp : 0 < p) (hv : 0 < y * p) (hT : T * p = u * 18446744073709551616 + (l1 * 4294967296 + l0))
  (e1 : q1 * (y * p) + r1 = u * 4294967296 + l1) (e2 : q0 * (y * p) + r0 = r1 * 4294967296 + l0) (e3 : r0 < y * p) :
  q1 * 4294967296 + q0 = T / y ∧ r0 / p = T % y := by
 have e : T * p = (q1 * 4294967296 + q0) * (y * p) + r0 := by
  rw [hT, Nat.add_mul, Nat.mul_right_comm]
  omega
 have d1 : T * p / (y * p) = q1 * 4294967296 + q0 := by
  rw [e, Nat.mul_comm _ (y * p), Nat.mul_add_div hv, Nat.div_eq_of_lt e3, Nat.add_zero]
 have d2 : T * p % (y * p) = r0 := by
  rw [e, Nat.mul_comm _ (y * p), Nat.mul_add_mod, Nat.mod_eq_of_lt e3]
 rw [Nat.mul_div_mul_right _ _ hp] at d1
 rw [Nat.mul_mod_mul_right] at d2
 exact ⟨d1.symm, by rw [← d2, Nat.mul_div_cancel _ hp]⟩

/-- The two digits together: of a dividend T shifted up by p = 2^s. -/
theorem two_digits (T p y u l1 l0 : Nat) (hp : 0 < p) (hy : 0 < y) (hT : T * p = u * 18446744073709551616 + (l1 * 4294967296 + l0)) :
  (u * 4294967296 + l1) / (y * p) * 4294967296 + ((u * 4294967296 + l1) % (y * p) * 4294967296 + l0) / (y * p) = T / y ∧
  ((u * 4294967296 + l1) % (y * p) * 4294967296 + l0) % (y * p) / p = T % y := by
 have hv : 0 < y * p := Nat.mul_pos hy hp
 exact two_digits' T p y u l1 l0 _ _ _ _ hp hv hT (Nat.div_add_mod' _ _) (Nat.div_add_mod' _ _) (Nat.mod_lt _ hv)

/-- The dividend, shifted up by s bits: its two halves. -/
theorem shifted (hi lo s : Nat) (hs : s ≤ 63) (_hlo : lo < 18446744073709551616) :
  (hi * 18446744073709551616 + lo) * 2 ^ s = (hi * 2 ^ s + lo / 2 ^ (64 - s)) * 18446744073709551616 + (lo * 2 ^ s % 18446744073709551616) := by
 have e : (18446744073709551616 : Nat) = 2 ^ (64 - s) * 2 ^ s := by
  rw [← Nat.pow_add]
  rw [show 64 - s + s = 64 by omega]
 have h : lo * 2 ^ s / 18446744073709551616 = lo / 2 ^ (64 - s) := by
  rw [e, Nat.mul_div_mul_right _ _ (Nat.two_pow_pos s)]
 have h2 := Nat.div_add_mod' (lo * 2 ^ s) 18446744073709551616
 rw [h] at h2
 rw [Nat.add_mul, Nat.add_mul, Nat.mul_right_comm, ← h2, ← Nat.add_assoc]
 simp only [Nat.mul_add_mod_self_right, Nat.mod_mod]

/-- The high half of the shifted dividend is less than the shifted divisor. -/
theorem shifted_lt (hi lo y s : Nat) (hs : s ≤ 63) (hlo : lo < 18446744073709551616) (h : hi < y) :
  hi * 2 ^ s + lo / 2 ^ (64 - s) < y * 2 ^ s := by
 have e : (18446744073709551616 : Nat) = 2 ^ s * 2 ^ (64 - s) := by
  rw [← Nat.pow_add]
  rw [show s + (64 - s) = 64 by omega]
 have h1 : lo / 2 ^ (64 - s) < 2 ^ s := by
  rw [Nat.div_lt_iff_lt_mul (Nat.two_pow_pos _), ← e]
  exact hlo
 have h2 := Nat.mul_le_mul_right (2 ^ s) h
 rw [Nat.succ_mul] at h2
 omega

theorem mul_le (q y0 : Nat) (hq : q < 4294967296) (hy : y0 < 4294967296) : (q : Int) * (y0 : Int) ≤ 18446744065119617025 ∧ q * y0 ≤ 18446744065119617025 := by
 have h : q * y0 ≤ 4294967295 * 4294967295 := Nat.mul_le_mul (by omega) (by omega)
 rw [← Int.natCast_mul]
 omega
theorem cast_lt (r d q y0 : Nat) (h : 4294967296 * r + d < q * y0) : 4294967296 * (r : Int) + (d : Int) < (q : Int) * (y0 : Int) := by
 rw [← Int.natCast_mul]
 omega
theorem cast_le (r d q y0 : Nat) (h : q * y0 ≤ 4294967296 * r + d) : (q : Int) * (y0 : Int) ≤ 4294967296 * (r : Int) + (d : Int) := by
 rw [← Int.natCast_mul]
 omega

end Go.Proofs.Ytglglhcnofbagaa.Mo.Ar
namespace Go.Proofs.Ytglglhcnofbagaa.Mo
set_option maxRecDepth 100000
open Go.RowKit

/-! Numbers of the run are integers; the reckoning is done on natural numbers: how the one is written as the other. -/
theorem castLow (a : Nat) (h : a < 18446744073709551616) : bits .and .u64 (a : Int) 4294967295 = ((a % 4294967296 : Nat) : Int) :=
 (and_low32 (a : Int) (Int.natCast_nonneg a) (by omega)).trans (by omega)
theorem castHigh (a : Nat) : (a : Int) / 4294967296 = ((a / 4294967296 : Nat) : Int) := (Int.natCast_ediv a 4294967296).symm
theorem castMul (a b : Nat) : (a : Int) * (b : Int) = ((a * b : Nat) : Int) := by simp
theorem castAdd (a b : Nat) : (a : Int) + (b : Int) = ((a + b : Nat) : Int) := by simp
theorem wrapMod (a : Nat) : IntKind.u64.wrap (a : Int) = ((a % 18446744073709551616 : Nat) : Int) := (IntKind.wrap_u64 a).trans (by omega)
theorem wrapFit (a : Nat) (h : a < 18446744073709551616) : IntKind.u64.wrap (a : Int) = (a : Int) := by rw [wrapMod, Nat.mod_eq_of_lt h]

/-- The product of two numbers of 64 bits by their halves: nothing of what is reckoned on the way reaches 2^64, and the high half comes out. -/
theorem halves (x y : Nat) (hx : x < 18446744073709551616) (hy : y < 18446744073709551616) :
  x % 4294967296 * (y % 4294967296) < 18446744073709551616 ∧ x / 4294967296 * (y % 4294967296) < 18446744073709551616 ∧ x % 4294967296 * (y / 4294967296) < 18446744073709551616 ∧ x / 4294967296 * (y / 4294967296) < 18446744073709551616 ∧
  x / 4294967296 * (y % 4294967296) + x % 4294967296 * (y % 4294967296) / 4294967296 < 18446744073709551616 ∧
  (x / 4294967296 * (y % 4294967296) + x % 4294967296 * (y % 4294967296) / 4294967296) % 4294967296 + x % 4294967296 * (y / 4294967296) < 18446744073709551616 ∧
  x / 4294967296 * (y / 4294967296) + (x / 4294967296 * (y % 4294967296) + x % 4294967296 * (y % 4294967296) / 4294967296) / 4294967296 < 18446744073709551616 ∧
  x * y / 18446744073709551616 < 18446744073709551616 ∧
  x / 4294967296 * (y / 4294967296) + (x / 4294967296 * (y % 4294967296) + x % 4294967296 * (y % 4294967296) / 4294967296) / 4294967296 +
   ((x / 4294967296 * (y % 4294967296) + x % 4294967296 * (y % 4294967296) / 4294967296) % 4294967296 + x % 4294967296 * (y / 4294967296)) / 4294967296 = x * y / 18446744073709551616 := by
 have e := Lib.split_mul (x / 4294967296) (x % 4294967296) (y / 4294967296) (y % 4294967296) 4294967296
 rw [Nat.div_add_mod', Nat.div_add_mod'] at e
 have top : x * y / 18446744073709551616 < 18446744073709551616 := by
  rw [Nat.div_lt_iff_lt_mul (by omega)]
  exact Nat.lt_of_le_of_lt (Nat.mul_le_mul_right y (Nat.le_of_lt hx)) (Nat.mul_lt_mul_of_pos_left hy (by omega))
 have k1 := Lib.half_mul_le (a := x % 4294967296) (b := y % 4294967296) (by omega) (by omega)
 have k2 := Lib.half_mul_le (a := x / 4294967296) (b := y % 4294967296) (by omega) (by omega)
 have k3 := Lib.half_mul_le (a := x % 4294967296) (b := y / 4294967296) (by omega) (by omega)
 have k4 := Lib.half_mul_le (a := x / 4294967296) (b := y / 4294967296) (by omega) (by omega)
 generalize x * y = t at *
 generalize x % 4294967296 * (y % 4294967296) = p at *
 generalize x / 4294967296 * (y % 4294967296) = q at *
 generalize x % 4294967296 * (y / 4294967296) = r at *
 generalize x / 4294967296 * (y / 4294967296) = u at *
 clear hx hy
 refine ⟨?_, ?_, ?_, ?_, ?_, ?_, ?_, top, ?_⟩ <;> omega

/-- math/bits.Add64 with carry 0. -/
theorem add64_0 (x y : Int) (hx : 0 ≤ x) (hy : 0 ≤ y) (w : World) : (callFunc 96 #[.int .u64 x, .int .u64 y, .int .u64 0]).run Try.prog w =
  .ok (.value (.tuple #[.int .u64 ((x + y) % 18446744073709551616), .int .u64 ((x + y) / 18446744073709551616)])) w := by
 rw [run_callFunc_extern Try.func96 (by kernel_rfl) (by kernel_rfl) (by kernel_rfl) (e := add64Entry) (by kernel_rfl), run_add64 x y 0 hx hy (by omega) (by omega)]
 simp only [Result.andThen, Int.add_zero]

set_option maxHeartbeats 1000000 in
/-- math/bits.Mul64: the two halves of the product. -/
theorem mul64 (x y : Nat) (hx : x < 18446744073709551616) (hy : y < 18446744073709551616) (w : World) :
  Calls Try.prog 52 #[.int .u64 x, .int .u64 y] w fun e w' => e = .returned (.tuple #[.int .u64 ((x * y / 18446744073709551616 : Nat) : Int), .int .u64 ((x * y % 18446744073709551616 : Nat) : Int)]) ∧ w = w' := by
 obtain ⟨c1, c2, c3, c4, c5, c6, c7, c8, c9⟩ := halves x y hx hy
 have C := Lib.hid c9
 have c10 := c9 ▸ c8
 clear c8 c9
 go_enter Try.func52, Try.ntmps52
 go_wp2
 simp only [castLow x hx, castLow y hy, castHigh, castMul, castAdd, wrapFit _ c1, wrapFit _ c2, wrapFit _ c3, wrapFit _ c4, wrapFit _ c5, castLow _ c5, wrapFit _ c6, wrapFit _ c7, wrapFit _ c10]
 rw [C.out, wrapMod]
 go_ret2
 exact ⟨rfl, rfl⟩

theorem len8_get (i : Int) (h0 : 0 ≤ i) (h1 : i ≤ 255) (h : i.toNat < Lib.len8tab.size) : (Lib.len8tab[i.toNat].toNat : Int) = (Lib.bitLen i.toNat : Int) := by
 rw [← Lib.len8_of i h0 h1]
 unfold Lib.len8
 rw [ByteArray.getElem?_lt' _ _ h, Option.getD_some]
theorem len8_wrap (i : Int) (n : Nat) (h0 : 0 ≤ i) (h1 : i ≤ 255) (h : i.toNat < Lib.len8tab.size) (hn : n ≤ 56) : wrap64 ((n : Int) + wrap64 (Lib.len8tab[i.toNat].toNat : Int)) = ((n + Lib.bitLen i.toNat : Nat) : Int) := by
 have l := Lib.bitLen_le8' i h0 h1
 rw [len8_get i h0 h1 h]
 unfold wrap64
 omega
theorem len8_wrap0 (i : Int) (h0 : 0 ≤ i) (h1 : i ≤ 255) (h : i.toNat < Lib.len8tab.size) : wrap64 (wrap64 (Lib.len8tab[i.toNat].toNat : Int)) = ((Lib.bitLen i.toNat : Nat) : Int) := by
 have := len8_wrap i 0 h0 h1 h (by omega)
 simpa using this

set_option maxHeartbeats 4000000 in
set_option maxRecDepth 100000 in
theorem len64 (x : Int) (w : World) (h0 : 0 ≤ x) (h1 : x ≤ 18446744073709551615) :
  Calls Try.prog 87 #[.int .u64 x] w fun e w' => e = .returned (.int .i64 (Lib.bitLen x.toNat)) ∧ w = w' := by
 have hsz := Lib.len8tab_size
 go_enter Try.func87, Try.ntmps87
 go_wp2
 all_goals (go_ret; refine ⟨congrArg Ending.returned (congrArg (Value.int IntKind.i64) ?_), rfl⟩)
 ·exact (len8_wrap (x / 4294967296 / 65536 / 256) 56 (by omega) (by omega) (by omega) (by omega)).trans (by rw [show (x / 4294967296 / 65536 / 256).toNat = x.toNat / 72057594037927936 from by omega, ← Lib.bitLen_shift56 x.toNat (by omega) (by omega)])
 ·exact (len8_wrap (x / 4294967296 / 65536) 48 (by omega) (by omega) (by omega) (by omega)).trans (by rw [show (x / 4294967296 / 65536).toNat = x.toNat / 281474976710656 from by omega, ← Lib.bitLen_shift48 x.toNat (by omega) (by omega)])
 ·exact (len8_wrap (x / 4294967296 / 256) 40 (by omega) (by omega) (by omega) (by omega)).trans (by rw [show (x / 4294967296 / 256).toNat = x.toNat / 1099511627776 from by omega, ← Lib.bitLen_shift40 x.toNat (by omega) (by omega)])
 ·exact (len8_wrap (x / 4294967296) 32 (by omega) (by omega) (by omega) (by omega)).trans (by rw [show (x / 4294967296).toNat = x.toNat / 4294967296 from by omega, ← Lib.bitLen_shift32 x.toNat (by omega) (by omega)])
 ·exact (len8_wrap (x / 65536 / 256) 24 (by omega) (by omega) (by omega) (by omega)).trans (by rw [show (x / 65536 / 256).toNat = x.toNat / 16777216 from by omega, ← Lib.bitLen_shift24 x.toNat (by omega) (by omega)])
 ·exact (len8_wrap (x / 65536) 16 (by omega) (by omega) (by omega) (by omega)).trans (by rw [show (x / 65536).toNat = x.toNat / 65536 from by omega, ← Lib.bitLen_shift16 x.toNat (by omega) (by omega)])
 ·exact (len8_wrap (x / 256) 8 (by omega) (by omega) (by omega) (by omega)).trans (by rw [show (x / 256).toNat = x.toNat / 256 from by omega, ← Lib.bitLen_shift8 x.toNat (by omega) (by omega)])
 ·exact len8_wrap0 x h0 (by omega) (by omega)

/-- How far y is shifted up to be normalized. -/
def lz (y : Nat) : Nat := 64 - Lib.bitLen y

theorem bitLenAux_lt (f : Nat) : ∀ x : Nat, x < 2 ^ f → x < 2 ^ Lib.bitLenAux f x := by
 induction f with
 | zero => intro x hx; simpa [Lib.bitLenAux] using hx
 | succ f ih =>
  intro x hx
  simp only [Lib.bitLenAux]
  split
  ·subst_vars; simp
  ·have := ih (x / 2) (by rw [Nat.pow_succ] at hx; omega)
   rw [Nat.add_comm, Nat.pow_succ]
   omega
theorem bitLenAux_ge (f : Nat) : ∀ x : Nat, x < 2 ^ f → 0 < x → 2 ^ (Lib.bitLenAux f x - 1) ≤ x := by
 induction f with
 | zero => intro x hx h; simp at hx; omega
 | succ f ih =>
  intro x hx h
  simp only [Lib.bitLenAux]
  rw [if_neg (by omega), Nat.add_sub_cancel_left]
  by_cases h2 : x / 2 = 0
  ·have : Lib.bitLenAux f (x / 2) = 0 := by rw [h2]; cases f <;> simp [Lib.bitLenAux]
   rw [this]
   omega
  ·have h3 := ih (x / 2) (by rw [Nat.pow_succ] at hx; omega) (by omega)
   have h4 : 1 ≤ Lib.bitLenAux f (x / 2) := by
    cases f with
    | zero => simp at hx; omega
    | succ f => simp [Lib.bitLenAux, h2]
   generalize Lib.bitLenAux f (x / 2) = k at *
   obtain ⟨j, rfl⟩ : ∃ j, k = j + 1 := ⟨k - 1, by omega⟩
   rw [Nat.add_sub_cancel] at h3
   rw [Nat.pow_succ]
   omega

theorem lz_bounds (y : Nat) (h0 : 0 < y) (h1 : y < 18446744073709551616) : lz y ≤ 63 ∧ Lib.bitLen y ≤ 64 ∧ 9223372036854775808 ≤ y * 2 ^ lz y ∧ y * 2 ^ lz y < 18446744073709551616 := by
 have a := bitLenAux_lt 64 y (by omega)
 have b := bitLenAux_ge 64 y (by omega) h0
 have c := Lib.bitLen_le y 64 (by omega) (by omega)
 unfold lz
 change Lib.bitLenAux 64 y ≤ 64 at c
 change 64 - Lib.bitLenAux 64 y ≤ 63 ∧ Lib.bitLenAux 64 y ≤ 64 ∧ _ ≤ y * 2 ^ (64 - Lib.bitLenAux 64 y) ∧ y * 2 ^ (64 - Lib.bitLenAux 64 y) < _
 generalize Lib.bitLenAux 64 y = k at *
 have hk : 1 ≤ k := by
  cases k with
  | zero => simp at a; omega
  | succ k => omega
 refine ⟨by omega, c, ?_, ?_⟩
 ·have := Nat.mul_le_mul_right (2 ^ (64 - k)) b
  rw [← Nat.pow_add, show k - 1 + (64 - k) = 63 by omega] at this
  exact this
 ·have := Nat.mul_lt_mul_of_pos_right a (Nat.two_pow_pos (64 - k))
  rw [← Nat.pow_add, show k + (64 - k) = 64 by omega] at this
  exact this

theorem lz64 (y : Nat) (w : World) (h0 : 0 < y) (h1 : y < 18446744073709551616) :
  Calls Try.prog 76 #[.int .u64 y] w fun e w' => e = .returned (.int .i64 (lz y)) ∧ w = w' := by
 obtain ⟨_, hb, _, _⟩ := lz_bounds y h0 h1
 have e8 : (64 - (Lib.bitLen y : Int)) = (lz y : Int) := by unfold lz; omega
 go_enter Try.func76, Try.ntmps76
 go_wp2_with (go_at_call 87; refine (len64 (y : Int) _ (by omega) (by omega)).mono ?_; rintro e w' ⟨rfl, rfl⟩)
 go_ret
 exact ⟨by simp, rfl⟩

end Go.Proofs.Ytglglhcnofbagaa.Mo
