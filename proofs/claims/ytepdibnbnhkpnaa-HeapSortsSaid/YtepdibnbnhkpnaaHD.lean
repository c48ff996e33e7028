/-
  The program's heap: an item is moved down.
-/
import Derived.Test.YtepdibnbnhkpnaaHY
namespace Go.Proofs.Ytepdibnbnhkpnaa
open Go.RowKit
set_option linter.unusedSimpArgs false
set_option linter.unusedVariables false

def DnR (Bd g : Nat) (d : Hd) (w : World) (gg : Nat) (s1 : Value) (V : World) : Prop :=
  ∃ (i : Nat) (T : List It), s1 = .int .i64 i ∧ d.A.length - i = gg ∧ Hm Bd g d w T V ∧ i < T.length ∧ DnI T i
def DnO (Bd g : Nat) (d : Hd) (w : World) (e : Ending) (V : World) : Prop := e = .returned (.tuple #[]) ∧ ∃ T, Hm Bd g d w T V ∧ HO T
/-- The first of the children so far: fi; the next one: c. -/
structure InR (T : List It) (i n : Nat) (c fi : Nat) : Prop where
  lo : 2 * i + 1 ≤ c
  hi : c ≤ 2 * i + 3
  fn : fi < n
  fc : fi = i ∨ (0 < fi ∧ (fi - 1) / 2 = i ∧ bf (ita T fi) (ita T i) = true)
  fm : ∀ s, 2 * i + 1 ≤ s → s < c → s < n → bf (ita T s) (ita T fi) = false
theorem InR.start {T : List It} {i n : Nat} (h : i < n) : InR T i n (2 * i + 1) i := ⟨by omega, by omega, h, .inl rfl, fun s h1 h2 _ => by omega⟩
theorem InR.yes {T : List It} {i n c fi : Nat} (h : InR T i n c fi) (hc : c ≤ 2 * i + 2) (hn : c < n) (hb : bf (ita T c) (ita T fi) = true) : InR T i n (c + 1) c := by
  have h1 := h.lo
  refine ⟨by omega, by omega, hn, .inr ⟨by omega, by omega, ?_⟩, fun s a1 a2 a3 => ?_⟩
  · rcases h.fc with e | ⟨_, _, e⟩
    · rw [e] at hb; exact hb
    · exact bf_trans hb e
  · by_cases e : s = c
    · rw [e]; exact bf_irr _
    · exact bf_ntr (h.fm s a1 (by omega) a3) (bf_asym hb)
theorem InR.no {T : List It} {i n c fi : Nat} (h : InR T i n c fi) (hc : c ≤ 2 * i + 2) (hb : bf (ita T c) (ita T fi) = false) : InR T i n (c + 1) fi := by
  have h1 := h.lo
  refine ⟨by omega, by omega, h.fn, h.fc, fun s a1 a2 a3 => ?_⟩
  by_cases e : s = c
  · rw [e]; exact hb
  · exact h.fm s a1 (by omega) a3
theorem InR.all {T : List It} {i n c fi : Nat} (h : InR T i n c fi) (hc : ¬ (c ≤ 2 * i + 2 ∧ c < n)) : ∀ s, 0 < s → s < n → (s - 1) / 2 = i → bf (ita T s) (ita T fi) = false := fun s h1 h2 h3 => by
  have := h.lo
  have := h.hi
  exact h.fm s (by omega) (by omega) h2
def InW (Bd g : Nat) (d : Hd) (w : World) (T : List It) (i n : Nat) (gg : Nat) (s4 s5 : Value) (V : World) : Prop := ∃ c fi : Nat, s4 = .int .i64 fi ∧ s5 = .int .i64 c ∧ 2 * i + 3 - c = gg ∧ Hm Bd g d w T V ∧ InR T i n c fi
set_option maxRecDepth 100000 in
set_option maxHeartbeats 4000000 in
theorem q_down {Bd g : Nat} {d : Hd} {f : Int → Option Int} {w : World} (h : Mh w g d f) (hp : Px d.A f) (hB : ∀ k, Sh g d k → Bd ≤ k) (hw : Bd ≤ w.heap.size) (hn : (d.A.map (·.1)).Nodup) (hl : d.A.length ≤ 100000) {i0 : Nat} (hi : i0 < d.A.length) (hG : DnI d.A i0) :
    Calls Try.prog 28 #[.pointer (some ⟨g, 0, none⟩), .int .i64 i0] w (DnO Bd g d w) := by
  obtain ⟨b, hb⟩ := h.addr (by omega)
  have HS : Hid (DnR Bd g d w (d.A.length - i0) (.int .i64 i0) w) := Lib.hid ⟨i0, d.A, rfl, rfl, Hm.start h hp, hi, hG⟩
  have HB := Lib.hid (fun (T : List It) (V : World) (h : Hm Bd g d w T V) (i j : Nat) (hi : i < T.length) (hj : j < T.length) => h.exch hB hw hn hi hj)
  have HLB := Lib.hid (fun (T : List It) (V : World) (h : Hm Bd g d w T V) => h.ldb hb)
  have HIT := Lib.hid (fun (T : List It) (V : World) (h : Hm Bd g d w T V) (i : Nat) (hi : i < T.length) => h.item hb hi)
  have HGD := Lib.hid (fun (T : List It) (V V2 : World) (h : Hm Bd g d w T V) (hg : Gd V V2) => h.gd hw hg)
  obtain ⟨n, hdn⟩ : ∃ n, d.A.length = n := ⟨_, rfl⟩
  have HDN := Lib.hid hdn
  rw [hdn] at hl hi
  have HIL : Hid (n ≤ 100000) := Lib.hid hl
  obtain ⟨m0, hm0⟩ : ∃ m0, d.A.length - i0 = m0 := ⟨_, rfl⟩
  rw [hm0] at HS
  clear h hp hB hw hn hl hi hG hb hdn hm0
  go_enter Try.func28, Try.ntmps28
  go_wp2_with fail
  go_loopg [1] m0 (fun gg s1 wx => DnR Bd g d w gg s1 wx)
  case atStart => exact HS.out
  case round =>
    generalize wr = wR at *
    generalize gk = gO at *
    obtain ⟨i, T, rfl, hgi, hm, hiT, hG⟩ := hrel
    have hn := hm.len
    rw [HDN.out] at hn hgi
    rw [hn] at hiT
    have HN := Lib.hid hn
    have HGE := Lib.hid hG
    have HGI := Lib.hid hgi
    have HL1 := Lib.hid (fun V h => by have := HLB.out T V h; rw [HN.out] at this; exact this)
    have HI1 := Lib.hid (fun V h (i : Nat) (hi : i < n) => HIT.out T V h i (by rw [HN.out]; exact hi))
    have HST : Hid (InW Bd g d w T i n 2 (.int .i64 i) (.int .i64 (2 * i + 1 : Nat)) wR) := Lib.hid ⟨_, i, rfl, rfl, by omega, hm, InR.start hiT⟩
    have hil : i ≤ 100000 := by have := HIL.out; omega
    clear hn hG hgi hm HLB HIT
    go_upto_region 0 with fail
    apply wp_region_lit
    refine gw_val (by kernel_rfl) (some 6) rfl (.int .i64 i) (by kernel_rfl) ?_
    simp only [Act.put, List.setIfInBounds_toArray, List.set_cons_succ, List.set_cons_zero]
    refine gw_val (by kernel_rfl) (some 4) rfl (.int .i64 i) (by kernel_rfl) ?_
    simp only [Act.put, List.setIfInBounds_toArray, List.set_cons_succ, List.set_cons_zero]
    apply wpList_nil
    go_upto_region 1 with fail
    apply wp_region_lit
    refine gw_val (by kernel_rfl) (some 7) rfl (.int .i64 i) (by kernel_rfl) ?_
    simp only [Act.put, List.setIfInBounds_toArray, List.set_cons_succ, List.set_cons_zero]
    refine gw_val (by kernel_rfl) (some 8) rfl (.int .i64 (2 * i : Nat)) (mul_2 rfl i (by omega) (by kernel_rfl) (by kernel_rfl) _) ?_
    simp only [Act.put, List.setIfInBounds_toArray, List.set_cons_succ, List.set_cons_zero]
    refine gw_val (by kernel_rfl) (some 9) rfl (.int .i64 (2 * i + 1 : Nat)) (add_k rfl (2 * i) 1 (by omega) (by omega) (by kernel_rfl) (by kernel_rfl) _) ?_
    simp only [Act.put, List.setIfInBounds_toArray, List.set_cons_succ, List.set_cons_zero]
    refine gw_val (by kernel_rfl) (some 5) rfl (.int .i64 (2 * i + 1 : Nat)) (by kernel_rfl) ?_
    simp only [Act.put, List.setIfInBounds_toArray, List.set_cons_succ, List.set_cons_zero]
    apply wpList_nil
    go_wp2_with fail
    go_loopg [4, 5] 2 (fun gg s4 s5 wx => InW Bd g d w T i n gg s4 s5 wx)
    case atStart => exact HST.out
    case round =>
      obtain ⟨c, fi, rfl, rfl, hgc, hm, hr⟩ := hrel
      have hc3 := hr.hi
      have hfn := hr.fn
      have HR := Lib.hid hr
      have HGC := Lib.hid hgc
      clear hr hgc
      go_upto_region 2 with fail
      by_cases h2 : c ≤ 2 * i + 2
      · have HD2 : Hid (decide ((c : Int) ≤ ((2 * i + 2 : Nat) : Int)) = true) := Lib.hid (decide_eq_true (by omega))
        by_cases h3 : c < n
        · have HD3 : Hid (decide (c < n) = true) := Lib.hid (decide_eq_true h3)
          apply wp_region_lit
          refine gw_val (by kernel_rfl) (some 10) rfl (.int .i64 c) (by kernel_rfl) ?_
          simp only [Act.put, List.setIfInBounds_toArray, List.set_cons_succ, List.set_cons_zero]
          refine gw_val (by kernel_rfl) (some 11) rfl (.int .i64 i) (by kernel_rfl) ?_
          simp only [Act.put, List.setIfInBounds_toArray, List.set_cons_succ, List.set_cons_zero]
          refine gw_val (by kernel_rfl) (some 12) rfl (.int .i64 (2 * i : Nat)) (mul_2 rfl i (by omega) (by kernel_rfl) (by kernel_rfl) _) ?_
          simp only [Act.put, List.setIfInBounds_toArray, List.set_cons_succ, List.set_cons_zero]
          refine gw_val (by kernel_rfl) (some 13) rfl (.int .i64 (2 * i + 2 : Nat)) (add_k rfl (2 * i) 2 (by omega) (by omega) (by kernel_rfl) (by kernel_rfl) _) ?_
          simp only [Act.put, List.setIfInBounds_toArray, List.set_cons_succ, List.set_cons_zero]
          refine gw_val (by kernel_rfl) (some 14) rfl (.bool true) (by rw [← HD2.out]; exact leq_i rfl c (2 * i + 2 : Nat) (by kernel_rfl) (by kernel_rfl) _) ?_
          simp only [Act.put, List.setIfInBounds_toArray, List.set_cons_succ, List.set_cons_zero]
          refine gw_val (by kernel_rfl) (some 15) rfl (.bool true) (by kernel_rfl) ?_
          simp only [Act.put, List.setIfInBounds_toArray, List.set_cons_succ, List.set_cons_zero]
          refine gw_val (by kernel_rfl) (some 16) rfl (.int .i64 c) (by kernel_rfl) ?_
          simp only [Act.put, List.setIfInBounds_toArray, List.set_cons_succ, List.set_cons_zero]
          refine gw_val (by kernel_rfl) (some 17) rfl (.pointer (some ⟨g, 0, none⟩)) (by kernel_rfl) ?_
          simp only [Act.put, List.setIfInBounds_toArray, List.set_cons_succ, List.set_cons_zero]
          refine gw_val (by kernel_rfl) (some 18) rfl (.pointer (some ⟨g, 0, none⟩)) (by kernel_rfl) ?_
          simp only [Act.put, List.setIfInBounds_toArray, List.set_cons_succ, List.set_cons_zero]
          refine gw_val (by kernel_rfl) (some 19) rfl (.pointer (some ⟨g, 0, none⟩)) (by kernel_rfl) ?_
          simp only [Act.put, List.setIfInBounds_toArray, List.set_cons_succ, List.set_cons_zero]
          refine gw_load (by kernel_rfl) (some 20) rfl 35 (.tmp 19) rfl ⟨g, 0, none⟩ (.slice (some ⟨b, 0, none⟩) n d.kc) (by kernel_rfl) (HL1.out _ hm) ?_
          simp only [Act.put, List.setIfInBounds_toArray, List.set_cons_succ, List.set_cons_zero]
          refine gw_val (by kernel_rfl) (some 21) rfl (.int .i64 n) (by kernel_rfl) ?_
          simp only [Act.put, List.setIfInBounds_toArray, List.set_cons_succ, List.set_cons_zero]
          refine gw_val (by kernel_rfl) (some 22) rfl (.bool true) (by rw [← HD3.out]; exact lt_nat rfl c n (by kernel_rfl) (by kernel_rfl) _) ?_
          simp only [Act.put, List.setIfInBounds_toArray, List.set_cons_succ, List.set_cons_zero]
          refine gw_val (by kernel_rfl) (some 23) rfl (.bool true) (by kernel_rfl) ?_
          simp only [Act.put, List.setIfInBounds_toArray, List.set_cons_succ, List.set_cons_zero]
          apply wpList_nil
          go_upto_region 4 with fail
          have HC1 := Lib.hid (fun V h => HI1.out V h c h3)
          have HC2 := Lib.hid (fun V h => HI1.out V h fi hfn)
          obtain ⟨x, hx⟩ : ∃ x, ita T c = x := ⟨_, rfl⟩
          obtain ⟨y, hy⟩ : ∃ y, ita T fi = y := ⟨_, rfl⟩
          rw [hx] at HC1
          rw [hy] at HC2
          have HX := Lib.hid hx
          have HY := Lib.hid hy
          clear hx hy
          obtain ⟨r, hr⟩ : ∃ r, bf x y = r := ⟨_, rfl⟩
          have HBF := Lib.hid hr
          clear hr
          refine wp_region_class (C := fun U => Hm Bd g d w T U) (by kernel_rfl) (by kernel_rfl) (hm.drew) ?_
          refine gq_val (by kernel_rfl) (some 26) rfl (.pointer (some ⟨g, 0, none⟩)) (fun U hU => by kernel_rfl) ?_
          simp only [Act.put, List.setIfInBounds_toArray, List.set_cons_succ, List.set_cons_zero]
          refine gq_val (by kernel_rfl) (some 27) rfl (.pointer (some ⟨g, 0, none⟩)) (fun U hU => by kernel_rfl) ?_
          simp only [Act.put, List.setIfInBounds_toArray, List.set_cons_succ, List.set_cons_zero]
          refine gq_val (by kernel_rfl) (some 28) rfl (.pointer (some ⟨g, 0, none⟩)) (fun U hU => by kernel_rfl) ?_
          simp only [Act.put, List.setIfInBounds_toArray, List.set_cons_succ, List.set_cons_zero]
          refine gq_load (by kernel_rfl) (some 29) rfl 35 (.tmp 28) rfl ⟨g, 0, none⟩ (.slice (some ⟨b, 0, none⟩) n d.kc) (by kernel_rfl) (fun U hU => HL1.out U hU) ?_
          simp only [Act.put, List.setIfInBounds_toArray, List.set_cons_succ, List.set_cons_zero]
          refine gq_val (by kernel_rfl) (some 30) rfl (.int .i64 c) (fun U hU => by kernel_rfl) ?_
          simp only [Act.put, List.setIfInBounds_toArray, List.set_cons_succ, List.set_cons_zero]
          refine gq_val (by kernel_rfl) (some 31) rfl (.pointer (some ⟨b, c * 3, none⟩)) (fun U hU => idx_it0 b n d.kc c h3 _ _ _ rfl (by kernel_rfl) (by kernel_rfl)) ?_
          simp only [Act.put, List.setIfInBounds_toArray, List.set_cons_succ, List.set_cons_zero]
          refine gq_load (by kernel_rfl) (some 32) rfl 24 (.tmp 31) rfl ⟨b, c * 3, none⟩ (.agg (itA x)) (by kernel_rfl) (fun U hU => HC1.out U hU) ?_
          simp only [Act.put, List.setIfInBounds_toArray, List.set_cons_succ, List.set_cons_zero]
          refine gq_val (by kernel_rfl) (some 33) rfl (.pointer (some ⟨g, 0, none⟩)) (fun U hU => by kernel_rfl) ?_
          simp only [Act.put, List.setIfInBounds_toArray, List.set_cons_succ, List.set_cons_zero]
          refine gq_val (by kernel_rfl) (some 34) rfl (.pointer (some ⟨g, 0, none⟩)) (fun U hU => by kernel_rfl) ?_
          simp only [Act.put, List.setIfInBounds_toArray, List.set_cons_succ, List.set_cons_zero]
          refine gq_val (by kernel_rfl) (some 35) rfl (.pointer (some ⟨g, 0, none⟩)) (fun U hU => by kernel_rfl) ?_
          simp only [Act.put, List.setIfInBounds_toArray, List.set_cons_succ, List.set_cons_zero]
          refine gq_load (by kernel_rfl) (some 36) rfl 35 (.tmp 35) rfl ⟨g, 0, none⟩ (.slice (some ⟨b, 0, none⟩) n d.kc) (by kernel_rfl) (fun U hU => HL1.out U hU) ?_
          simp only [Act.put, List.setIfInBounds_toArray, List.set_cons_succ, List.set_cons_zero]
          refine gq_val (by kernel_rfl) (some 37) rfl (.int .i64 fi) (fun U hU => by kernel_rfl) ?_
          simp only [Act.put, List.setIfInBounds_toArray, List.set_cons_succ, List.set_cons_zero]
          refine gq_val (by kernel_rfl) (some 38) rfl (.pointer (some ⟨b, fi * 3, none⟩)) (fun U hU => idx_it0 b n d.kc fi hfn _ _ _ rfl (by kernel_rfl) (by kernel_rfl)) ?_
          simp only [Act.put, List.setIfInBounds_toArray, List.set_cons_succ, List.set_cons_zero]
          refine gq_load (by kernel_rfl) (some 39) rfl 24 (.tmp 38) rfl ⟨b, fi * 3, none⟩ (.agg (itA y)) (by kernel_rfl) (fun U hU => HC2.out U hU) ?_
          simp only [Act.put, List.setIfInBounds_toArray, List.set_cons_succ, List.set_cons_zero]
          refine gq_call (by kernel_rfl) (some 40) rfl 11 #[.agg (itA x), .agg (itA y)] (.bool r) (fun U hU => by kernel_rfl) (fun U hU => (before_it x y U).mono fun e w2 q => ⟨by rw [q.1, HBF.out], HGD.out T U w2 hU q.2⟩) ?_
          simp only [Act.put, List.setIfInBounds_toArray, List.set_cons_succ, List.set_cons_zero]
          apply wpQuiet_nil
          intro V hV
          clear hm HC1 HC2
          have HG : Hid (2 * i + 3 - (c + 1) = gk - 1 ∧ 0 < gk) := Lib.hid (by have := HGC.out; omega)
          cases r with
          | true =>
            have HR2 := Lib.hid (HR.out.yes h2 h3 (by rw [HX.out, HY.out]; exact HBF.out))
            clear HBF HX HY
            go_upto_region 5 with fail
            apply wp_region_lit
            refine gw_val (by kernel_rfl) (some 41) rfl (.int .i64 c) (by kernel_rfl) ?_
            simp only [Act.put, List.setIfInBounds_toArray, List.set_cons_succ, List.set_cons_zero]
            refine gw_val (by kernel_rfl) (some 4) rfl (.int .i64 c) (by kernel_rfl) ?_
            simp only [Act.put, List.setIfInBounds_toArray, List.set_cons_succ, List.set_cons_zero]
            apply wpList_nil
            go_upto_region 3 with fail
            apply wp_region_lit
            refine gw_val (by kernel_rfl) (some 24) rfl (.int .i64 c) (by kernel_rfl) ?_
            simp only [Act.put, List.setIfInBounds_toArray, List.set_cons_succ, List.set_cons_zero]
            refine gw_val (by kernel_rfl) (some 25) rfl (.int .i64 (c + 1 : Nat)) (add_one rfl c (by omega) (by kernel_rfl) _) ?_
            simp only [Act.put, List.setIfInBounds_toArray, List.set_cons_succ, List.set_cons_zero]
            refine gw_val (by kernel_rfl) (some 5) rfl (.int .i64 (c + 1 : Nat)) (by kernel_rfl) ?_
            simp only [Act.put, List.setIfInBounds_toArray, List.set_cons_succ, List.set_cons_zero]
            apply wpList_nil
            go_wp2_with fail
            go_roundg (gk - 1)
            case measure => have := HG.out; omega
            case rel => exact ⟨c + 1, c, rfl, rfl, HG.out.1, hV, HR2.out⟩
          | false =>
            have HR2 := Lib.hid (HR.out.no h2 (by rw [HX.out, HY.out]; exact HBF.out))
            clear HBF HX HY
            go_upto_region 3 with fail
            apply wp_region_lit
            refine gw_val (by kernel_rfl) (some 24) rfl (.int .i64 c) (by kernel_rfl) ?_
            simp only [Act.put, List.setIfInBounds_toArray, List.set_cons_succ, List.set_cons_zero]
            refine gw_val (by kernel_rfl) (some 25) rfl (.int .i64 (c + 1 : Nat)) (add_one rfl c (by omega) (by kernel_rfl) _) ?_
            simp only [Act.put, List.setIfInBounds_toArray, List.set_cons_succ, List.set_cons_zero]
            refine gw_val (by kernel_rfl) (some 5) rfl (.int .i64 (c + 1 : Nat)) (by kernel_rfl) ?_
            simp only [Act.put, List.setIfInBounds_toArray, List.set_cons_succ, List.set_cons_zero]
            apply wpList_nil
            go_wp2_with fail
            go_roundg (gk - 1)
            case measure => have := HG.out; omega
            case rel => exact ⟨c + 1, fi, rfl, rfl, HG.out.1, hV, HR2.out⟩
        · have HD3 : Hid (decide (c < n) = false) := Lib.hid (decide_eq_false h3)
          apply wp_region_lit
          refine gw_val (by kernel_rfl) (some 10) rfl (.int .i64 c) (by kernel_rfl) ?_
          simp only [Act.put, List.setIfInBounds_toArray, List.set_cons_succ, List.set_cons_zero]
          refine gw_val (by kernel_rfl) (some 11) rfl (.int .i64 i) (by kernel_rfl) ?_
          simp only [Act.put, List.setIfInBounds_toArray, List.set_cons_succ, List.set_cons_zero]
          refine gw_val (by kernel_rfl) (some 12) rfl (.int .i64 (2 * i : Nat)) (mul_2 rfl i (by omega) (by kernel_rfl) (by kernel_rfl) _) ?_
          simp only [Act.put, List.setIfInBounds_toArray, List.set_cons_succ, List.set_cons_zero]
          refine gw_val (by kernel_rfl) (some 13) rfl (.int .i64 (2 * i + 2 : Nat)) (add_k rfl (2 * i) 2 (by omega) (by omega) (by kernel_rfl) (by kernel_rfl) _) ?_
          simp only [Act.put, List.setIfInBounds_toArray, List.set_cons_succ, List.set_cons_zero]
          refine gw_val (by kernel_rfl) (some 14) rfl (.bool true) (by rw [← HD2.out]; exact leq_i rfl c (2 * i + 2 : Nat) (by kernel_rfl) (by kernel_rfl) _) ?_
          simp only [Act.put, List.setIfInBounds_toArray, List.set_cons_succ, List.set_cons_zero]
          refine gw_val (by kernel_rfl) (some 15) rfl (.bool true) (by kernel_rfl) ?_
          simp only [Act.put, List.setIfInBounds_toArray, List.set_cons_succ, List.set_cons_zero]
          refine gw_val (by kernel_rfl) (some 16) rfl (.int .i64 c) (by kernel_rfl) ?_
          simp only [Act.put, List.setIfInBounds_toArray, List.set_cons_succ, List.set_cons_zero]
          refine gw_val (by kernel_rfl) (some 17) rfl (.pointer (some ⟨g, 0, none⟩)) (by kernel_rfl) ?_
          simp only [Act.put, List.setIfInBounds_toArray, List.set_cons_succ, List.set_cons_zero]
          refine gw_val (by kernel_rfl) (some 18) rfl (.pointer (some ⟨g, 0, none⟩)) (by kernel_rfl) ?_
          simp only [Act.put, List.setIfInBounds_toArray, List.set_cons_succ, List.set_cons_zero]
          refine gw_val (by kernel_rfl) (some 19) rfl (.pointer (some ⟨g, 0, none⟩)) (by kernel_rfl) ?_
          simp only [Act.put, List.setIfInBounds_toArray, List.set_cons_succ, List.set_cons_zero]
          refine gw_load (by kernel_rfl) (some 20) rfl 35 (.tmp 19) rfl ⟨g, 0, none⟩ (.slice (some ⟨b, 0, none⟩) n d.kc) (by kernel_rfl) (HL1.out _ hm) ?_
          simp only [Act.put, List.setIfInBounds_toArray, List.set_cons_succ, List.set_cons_zero]
          refine gw_val (by kernel_rfl) (some 21) rfl (.int .i64 n) (by kernel_rfl) ?_
          simp only [Act.put, List.setIfInBounds_toArray, List.set_cons_succ, List.set_cons_zero]
          refine gw_val (by kernel_rfl) (some 22) rfl (.bool false) (by rw [← HD3.out]; exact lt_nat rfl c n (by kernel_rfl) (by kernel_rfl) _) ?_
          simp only [Act.put, List.setIfInBounds_toArray, List.set_cons_succ, List.set_cons_zero]
          refine gw_val (by kernel_rfl) (some 23) rfl (.bool false) (by kernel_rfl) ?_
          simp only [Act.put, List.setIfInBounds_toArray, List.set_cons_succ, List.set_cons_zero]
          apply wpList_nil
          have HAL := Lib.hid (HR.out.all (by omega))
          have HFC := Lib.hid HR.out.fc
          clear HR HGC
          by_cases he : fi = i
          · have HE : Hid (decide ((fi : Int) = (i : Int)) = true) := Lib.hid (decide_eq_true (by omega))
            have HO : Hid (DnO Bd g d w (.returned (.tuple #[])) wr) := Lib.hid ⟨rfl, T, hm, dn_end HGE.out (by rw [HN.out]; have := HAL.out; rw [he] at this; exact this)⟩
            clear hm HAL HFC
            go_upto_region 6 with fail
            apply wp_region_lit
            refine gw_val (by kernel_rfl) (some 42) rfl (.int .i64 fi) (by kernel_rfl) ?_
            simp only [Act.put, List.setIfInBounds_toArray, List.set_cons_succ, List.set_cons_zero]
            refine gw_val (by kernel_rfl) (some 43) rfl (.int .i64 i) (by kernel_rfl) ?_
            simp only [Act.put, List.setIfInBounds_toArray, List.set_cons_succ, List.set_cons_zero]
            refine gw_val (by kernel_rfl) (some 44) rfl (.bool true) (by rw [← HE.out]; exact eq_i rfl fi i (by kernel_rfl) (by kernel_rfl) _) ?_
            simp only [Act.put, List.setIfInBounds_toArray, List.set_cons_succ, List.set_cons_zero]
            apply wpList_nil
            go_wp2_with fail
            exact end_none rfl rfl HO.out
          · have HE : Hid (decide ((fi : Int) = (i : Int)) = false) := Lib.hid (decide_eq_false (by omega))
            have HF2 := Lib.hid (HFC.out.resolve_left he)
            have HH := Lib.hid (dn_step HGE.out (by rw [HN.out]; exact hiT) HF2.out.1 (by rw [HN.out]; exact hfn) HF2.out.2.1 HF2.out.2.2 (by rw [HN.out]; exact HAL.out))
            have HBX := Lib.hid (HB.out T wr hm i fi (by rw [HN.out]; exact hiT) (by rw [HN.out]; exact hfn))
            have HIF : Hid (i < fi) := Lib.hid (by have := HF2.out.1; have := HF2.out.2.1; omega)
            clear hm HAL HFC HGE HF2
            go_upto_region 6 with fail
            apply wp_region_lit
            refine gw_val (by kernel_rfl) (some 42) rfl (.int .i64 fi) (by kernel_rfl) ?_
            simp only [Act.put, List.setIfInBounds_toArray, List.set_cons_succ, List.set_cons_zero]
            refine gw_val (by kernel_rfl) (some 43) rfl (.int .i64 i) (by kernel_rfl) ?_
            simp only [Act.put, List.setIfInBounds_toArray, List.set_cons_succ, List.set_cons_zero]
            refine gw_val (by kernel_rfl) (some 44) rfl (.bool false) (by rw [← HE.out]; exact eq_i rfl fi i (by kernel_rfl) (by kernel_rfl) _) ?_
            simp only [Act.put, List.setIfInBounds_toArray, List.set_cons_succ, List.set_cons_zero]
            apply wpList_nil
            go_upto_region 7 with fail
            apply wp_region_lit
            refine gw_val (by kernel_rfl) (some 45) rfl (.pointer (some ⟨g, 0, none⟩)) (by kernel_rfl) ?_
            simp only [Act.put, List.setIfInBounds_toArray, List.set_cons_succ, List.set_cons_zero]
            refine gw_val (by kernel_rfl) (some 46) rfl (.int .i64 i) (by kernel_rfl) ?_
            simp only [Act.put, List.setIfInBounds_toArray, List.set_cons_succ, List.set_cons_zero]
            refine gw_val (by kernel_rfl) (some 47) rfl (.int .i64 fi) (by kernel_rfl) ?_
            simp only [Act.put, List.setIfInBounds_toArray, List.set_cons_succ, List.set_cons_zero]
            refine gw_call (by kernel_rfl) (some 48) rfl 27 #[.pointer (some ⟨g, 0, none⟩), .int .i64 i, .int .i64 fi] (.tuple #[]) (fun w9 => Hm Bd g d w (swL T i fi) w9) (by kernel_rfl) HBX.out (fun V2 hV2 => ?_)
            simp only [Act.put, List.setIfInBounds_toArray, List.set_cons_succ, List.set_cons_zero]
            apply wpList_nil
            go_upto_region 8 with fail
            apply wp_region_lit
            refine gw_val (by kernel_rfl) (some 49) rfl (.int .i64 fi) (by kernel_rfl) ?_
            simp only [Act.put, List.setIfInBounds_toArray, List.set_cons_succ, List.set_cons_zero]
            refine gw_val (by kernel_rfl) (some 1) rfl (.int .i64 fi) (by kernel_rfl) ?_
            simp only [Act.put, List.setIfInBounds_toArray, List.set_cons_succ, List.set_cons_zero]
            apply wpList_nil
            go_wp2_with fail
            go_roundg (n - fi)
            case measure => have := HIF.out; have := HGI.out; omega
            case rel => exact ⟨fi, swL T i fi, rfl, by rw [HDN.out], hV2, by rw [swL_len, HN.out]; exact hfn, HH.out⟩
      · have HD2 : Hid (decide ((c : Int) ≤ ((2 * i + 2 : Nat) : Int)) = false) := Lib.hid (decide_eq_false (by omega))
        apply wp_region_lit
        refine gw_val (by kernel_rfl) (some 10) rfl (.int .i64 c) (by kernel_rfl) ?_
        simp only [Act.put, List.setIfInBounds_toArray, List.set_cons_succ, List.set_cons_zero]
        refine gw_val (by kernel_rfl) (some 11) rfl (.int .i64 i) (by kernel_rfl) ?_
        simp only [Act.put, List.setIfInBounds_toArray, List.set_cons_succ, List.set_cons_zero]
        refine gw_val (by kernel_rfl) (some 12) rfl (.int .i64 (2 * i : Nat)) (mul_2 rfl i (by omega) (by kernel_rfl) (by kernel_rfl) _) ?_
        simp only [Act.put, List.setIfInBounds_toArray, List.set_cons_succ, List.set_cons_zero]
        refine gw_val (by kernel_rfl) (some 13) rfl (.int .i64 (2 * i + 2 : Nat)) (add_k rfl (2 * i) 2 (by omega) (by omega) (by kernel_rfl) (by kernel_rfl) _) ?_
        simp only [Act.put, List.setIfInBounds_toArray, List.set_cons_succ, List.set_cons_zero]
        refine gw_val (by kernel_rfl) (some 14) rfl (.bool false) (by rw [← HD2.out]; exact leq_i rfl c (2 * i + 2 : Nat) (by kernel_rfl) (by kernel_rfl) _) ?_
        simp only [Act.put, List.setIfInBounds_toArray, List.set_cons_succ, List.set_cons_zero]
        refine gw_val (by kernel_rfl) (some 15) rfl (.bool false) (by kernel_rfl) ?_
        simp only [Act.put, List.setIfInBounds_toArray, List.set_cons_succ, List.set_cons_zero]
        with_reducible refine gw_not (by kernel_rfl) (some 16) rfl ?_
        simp only [Act.put, List.setIfInBounds_toArray, List.set_cons_succ, List.set_cons_zero]
        with_reducible refine gw_not (by kernel_rfl) (some 17) rfl ?_
        simp only [Act.put, List.setIfInBounds_toArray, List.set_cons_succ, List.set_cons_zero]
        with_reducible refine gw_not (by kernel_rfl) (some 18) rfl ?_
        simp only [Act.put, List.setIfInBounds_toArray, List.set_cons_succ, List.set_cons_zero]
        with_reducible refine gw_not (by kernel_rfl) (some 19) rfl ?_
        simp only [Act.put, List.setIfInBounds_toArray, List.set_cons_succ, List.set_cons_zero]
        with_reducible refine gw_not (by kernel_rfl) (some 20) rfl ?_
        simp only [Act.put, List.setIfInBounds_toArray, List.set_cons_succ, List.set_cons_zero]
        with_reducible refine gw_not (by kernel_rfl) (some 21) rfl ?_
        simp only [Act.put, List.setIfInBounds_toArray, List.set_cons_succ, List.set_cons_zero]
        with_reducible refine gw_not (by kernel_rfl) (some 22) rfl ?_
        simp only [Act.put, List.setIfInBounds_toArray, List.set_cons_succ, List.set_cons_zero]
        refine gw_val (by kernel_rfl) (some 23) rfl (.bool false) (by kernel_rfl) ?_
        simp only [Act.put, List.setIfInBounds_toArray, List.set_cons_succ, List.set_cons_zero]
        apply wpList_nil
        have HAL := Lib.hid (HR.out.all (by omega))
        have HFC := Lib.hid HR.out.fc
        clear HR HGC
        by_cases he : fi = i
        · have HE : Hid (decide ((fi : Int) = (i : Int)) = true) := Lib.hid (decide_eq_true (by omega))
          have HO : Hid (DnO Bd g d w (.returned (.tuple #[])) wr) := Lib.hid ⟨rfl, T, hm, dn_end HGE.out (by rw [HN.out]; have := HAL.out; rw [he] at this; exact this)⟩
          clear hm HAL HFC
          go_upto_region 6 with fail
          apply wp_region_lit
          refine gw_val (by kernel_rfl) (some 42) rfl (.int .i64 fi) (by kernel_rfl) ?_
          simp only [Act.put, List.setIfInBounds_toArray, List.set_cons_succ, List.set_cons_zero]
          refine gw_val (by kernel_rfl) (some 43) rfl (.int .i64 i) (by kernel_rfl) ?_
          simp only [Act.put, List.setIfInBounds_toArray, List.set_cons_succ, List.set_cons_zero]
          refine gw_val (by kernel_rfl) (some 44) rfl (.bool true) (by rw [← HE.out]; exact eq_i rfl fi i (by kernel_rfl) (by kernel_rfl) _) ?_
          simp only [Act.put, List.setIfInBounds_toArray, List.set_cons_succ, List.set_cons_zero]
          apply wpList_nil
          go_wp2_with fail
          exact end_none rfl rfl HO.out
        · have HE : Hid (decide ((fi : Int) = (i : Int)) = false) := Lib.hid (decide_eq_false (by omega))
          have HF2 := Lib.hid (HFC.out.resolve_left he)
          have HH := Lib.hid (dn_step HGE.out (by rw [HN.out]; exact hiT) HF2.out.1 (by rw [HN.out]; exact hfn) HF2.out.2.1 HF2.out.2.2 (by rw [HN.out]; exact HAL.out))
          have HBX := Lib.hid (HB.out T wr hm i fi (by rw [HN.out]; exact hiT) (by rw [HN.out]; exact hfn))
          have HIF : Hid (i < fi) := Lib.hid (by have := HF2.out.1; have := HF2.out.2.1; omega)
          clear hm HAL HFC HGE HF2
          go_upto_region 6 with fail
          apply wp_region_lit
          refine gw_val (by kernel_rfl) (some 42) rfl (.int .i64 fi) (by kernel_rfl) ?_
          simp only [Act.put, List.setIfInBounds_toArray, List.set_cons_succ, List.set_cons_zero]
          refine gw_val (by kernel_rfl) (some 43) rfl (.int .i64 i) (by kernel_rfl) ?_
          simp only [Act.put, List.setIfInBounds_toArray, List.set_cons_succ, List.set_cons_zero]
          refine gw_val (by kernel_rfl) (some 44) rfl (.bool false) (by rw [← HE.out]; exact eq_i rfl fi i (by kernel_rfl) (by kernel_rfl) _) ?_
          simp only [Act.put, List.setIfInBounds_toArray, List.set_cons_succ, List.set_cons_zero]
          apply wpList_nil
          go_upto_region 7 with fail
          apply wp_region_lit
          refine gw_val (by kernel_rfl) (some 45) rfl (.pointer (some ⟨g, 0, none⟩)) (by kernel_rfl) ?_
          simp only [Act.put, List.setIfInBounds_toArray, List.set_cons_succ, List.set_cons_zero]
          refine gw_val (by kernel_rfl) (some 46) rfl (.int .i64 i) (by kernel_rfl) ?_
          simp only [Act.put, List.setIfInBounds_toArray, List.set_cons_succ, List.set_cons_zero]
          refine gw_val (by kernel_rfl) (some 47) rfl (.int .i64 fi) (by kernel_rfl) ?_
          simp only [Act.put, List.setIfInBounds_toArray, List.set_cons_succ, List.set_cons_zero]
          refine gw_call (by kernel_rfl) (some 48) rfl 27 #[.pointer (some ⟨g, 0, none⟩), .int .i64 i, .int .i64 fi] (.tuple #[]) (fun w9 => Hm Bd g d w (swL T i fi) w9) (by kernel_rfl) HBX.out (fun V2 hV2 => ?_)
          simp only [Act.put, List.setIfInBounds_toArray, List.set_cons_succ, List.set_cons_zero]
          apply wpList_nil
          go_upto_region 8 with fail
          apply wp_region_lit
          refine gw_val (by kernel_rfl) (some 49) rfl (.int .i64 fi) (by kernel_rfl) ?_
          simp only [Act.put, List.setIfInBounds_toArray, List.set_cons_succ, List.set_cons_zero]
          refine gw_val (by kernel_rfl) (some 1) rfl (.int .i64 fi) (by kernel_rfl) ?_
          simp only [Act.put, List.setIfInBounds_toArray, List.set_cons_succ, List.set_cons_zero]
          apply wpList_nil
          go_wp2_with fail
          go_roundg (n - fi)
          case measure => have := HIF.out; have := HGI.out; omega
          case rel => exact ⟨fi, swL T i fi, rfl, by rw [HDN.out], hV2, by rw [swL_len, HN.out]; exact hfn, HH.out⟩
end Go.Proofs.Ytepdibnbnhkpnaa
