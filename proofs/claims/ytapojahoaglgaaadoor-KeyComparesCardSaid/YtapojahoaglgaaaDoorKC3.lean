/-
  The contract of the code's Format.
-/
import Derived.Test.YtapojahoaglgaaaDoorKC2
import Derived.Deep.RegionHeld3
namespace Go.Proofs.YtapojahoaglgaaaDoor
open Go.RowKit

/-- 'append' to a row of the call's own, from whatever source, inside a region that draws its order. -/
theorem step_append_src {P : Program} {w : World} {ops : Array Oper} {o : Oper} {a : Act} {K : Act → World → Prop} {Q : Exit → Act → World → Prop} {E : Prop} (hgd : o.guard = none) (s x : Operand) (t : TypeId)
    (ho : o.op = .call { callee := .builtin .append, args := #[s, x], argTypes := #[t, t] })
    (base : Nat) (i : TypeInfo) (ht : P.underlying t = some (.slice 5)) (hi : P.info? 5 = some i) (hz : i.zero = some (.int .u8 0)) (hsize : i.size = 1) (hby : i.bytes = 1)
    (v : Value) (n : Nat) (xs : List Value) (hs : a.eval s = v) (hown : w.ownsRow base 5 1 v n xs)
    (ad : Option Addr) (m c : Nat) (L : List Int) (hx : a.eval x = .slice ad m c) (hm : L.length = m) (hr : Sl w ad c L) (hb : n + m ≤ 140737488355328) (hbase : base ≤ w.heap.size)
    (h : ∀ v' w', w'.ownsRow base 5 1 v' (n + m) (xs ++ L.map (Value.int .u8)) → w.grownBy w' v.ownBlock → K (a.put o.dst v') w') :
    if Region.wanted o (yielded ops a.tmps) = true then Oper.wp P o a w K Q else E := by
  have hw : Region.wanted o (yielded ops a.tmps) = true := by simp [Region.wanted, hgd]
  rw [if_pos hw]
  subst hm
  rcases hr with ⟨rfl, rfl, rfl⟩ | ⟨y, rfl, hy⟩
  · have hrun := run_append_owned_none (P := P) (w := w) base t o.type 5 i 1 ht hi v n xs hown
    unfold Oper.wp
    simp [execOp, ho, resolve, invoke, builtin, hs, hx, hrun, Result.andThen]
    exact h v w (by simpa using hown) (World.grownBy.refl w _)
  · refine wp_append_own w s x t ho base 5 i (.int .u8 0) 1 1 ht hi hz hsize hby rfl (by decide) v n xs hs hown y L.length c (L.map (Value.int .u8)) hx (by simp) ?_ (ints_oneCell _ _) (by unfold maxLen; omega) (by omega) hbase (fun v' w' h1 h2 _ => h v' w' h1 h2)
    intro j u hj
    have hj' : j < L.length := by
      rcases Nat.lt_or_ge j L.length with h | h
      · exact h
      · rw [List.getElem?_eq_none (by simpa using h)] at hj; cases hj
    obtain ⟨b, off, rfl, hc⟩ := hy j hj'
    rw [Go.WideShapes.add_plain, hc]
    rw [List.getElem?_map, List.getElem?_eq_getElem hj'] at hj
    rw [List.getD_eq_getElem?_getD, List.getElem?_eq_getElem hj']
    exact hj


theorem hex_byte : ∀ n : Nat, n < 16 → (hexS[n]!).toNat = (hexd n).toNat ∧ 0 ≤ hexd n := by decide +kernel
theorem hex_digit (n : Nat) (h : n < 16) (w : World) : (Instr.index 9 (.string hexS) (.int .u8 (n : Int))).run Tryd.prog w = .ok (.int .u8 (hexd n)) w := by
  have hs : hexS.size = 16 := by decide
  have hb := hex_byte n h
  have hc : 0 ≤ (n : Int) ∧ (n : Int) < hexS.size := by rw [hs]; omega
  rw [run_index_string _ _ _ _ _ Tryd.underlying9, dif_pos hc]
  have e : hexS[(n : Int).toNat]'(by have := hc.2; omega) = hexS[n]! := (getElem!_pos hexS n (by rw [hs]; exact h)).symm
  rw [e, hb.1]
  congr 2
  omega
theorem key_index (K : List Int) (i : Nat) (hK : K.length = 32) (h : i < 32) (w : World) : (Instr.index 25 (.agg (w8s K)) (.int .i64 (i : Int))).run Tryd.prog w = .ok (.int .u8 (K.getD i 0)) w := by
  refine run_index_agg 25 5 32 .i64 _ i _ w (by kernel_rfl) h (by kernel_rfl) (by kernel_rfl) ?_
  simp [w8s, List.getD, List.getElem?_eq_getElem (show i < K.length by omega)]

set_option maxRecDepth 100000 in
set_option maxHeartbeats 4000000 in
theorem fmt_any (K : List Int) (w : World) (hK : K.length = 32) (h8 : ∀ x, x ∈ K → W8 x) :
    Calls Tryd.prog 12 #[.agg (w8s K)] w fun e w' => e = .returned (.string (strOfNums (hexL K))) ∧ Below w.heap.size w w' := by
  obtain ⟨i0, hi, hz0, hz1, hz2⟩ := info_parts info5
  have HI := Lib.hid hi
  have HZ0 := Lib.hid hz0
  have HZ1 := Lib.hid hz1
  have HZ2 := Lib.hid hz2
  clear hi hz0 hz1 hz2
  go_enter Tryd.func12, Tryd.ntmps12
  go_upto_region 1 with fail
  have h1 : Ab (w.alloc (.cells (w8s K) 25)) w.heap.size 25 K := heap_alloc_last w _
  have h3 : Below w.heap.size w (w.alloc (.cells (w8s K) 25)) := (Below.refl _ w).alloc (by simp) _
  have hs : (w.alloc (.cells (w8s K) 25)).heap.size = w.heap.size + 1 := by simp
  change Code.wp _ _ _ _ (w.alloc (.cells (w8s K) 25))
  generalize w.alloc (.cells (w8s K) 25) = W at *
  obtain ⟨w1, hmk, ho1, hg1⟩ := run_make_own (P := Tryd.prog) W W.heap.size 22 5 i0 _ 1 Tryd.underlying22 HI.out HZ0.out HZ1.out .i64 .i64 64 (by rw [HZ2.out]; omega) (by unfold maxLen; omega) (Nat.le_refl _)
  rw [show ((64 : Nat) : Int) = 64 from rfl] at hmk
  have hb1 : Below W.heap.size W w1 := (Below.refl _ W).grown hg1 (Nat.le_refl _) (fun _ h => by cases h)
  have h11 : Ab w1 w.heap.size 25 K := h1.below (by omega) hb1
  have hsk : (w8s K).size = 32 := by simp [hK]
  have HK := Lib.hid hK
  have H8 := Lib.hid h8
  have H3 := Lib.hid h3
  clear hK h8 h3 hg1 h1 hs
  go_upto_region 2 with fail
  apply wp_region_lit
  apply wpList_load_row (ty := 25) (x := .tmp 1) (g := w.heap.size) (t := 25) (cs := w8s K) (fr := (0, 0)) (d := .array 32 5)
  case hgd => rfl
  case ho => rfl
  case hx => kernel_rfl
  case hg => exact h11
  case hu => kernel_rfl
  case hd => rfl
  case hi => rw [hsk]; kernel_rfl
  clear h11
  go_wp2_with fail
  go_loopg [3, 8] 32 (fun g s3 s8 wx => ∃ i : Nat, i ≤ 32 ∧ s8 = .int .i64 i ∧ Own wx W.heap.size s3 (hexL (K.take i)) ∧ Below W.heap.size W wx ∧ 32 - i = g)
  case atStart => exact ⟨0, by omega, by go_num, ho1, hb1, rfl⟩
  case round =>
    obtain ⟨i, hi, rfl, hO, hb, hgk⟩ := hrel
    obtain ⟨a3, c3, rfl, -, -⟩ := hO.sl
    by_cases hlt : i < 32
    · have hil : i < K.length := by rw [HK.out]; exact hlt
      have hix := key_index K i HK.out hlt wr
      have h8x := W8.getD H8.out i hil
      have h16 : K.getD i 0 / 16 = ((K.getD i 0 / 16).toNat : Int) := by have := h8x.1; omega
      have hm16 : bits .and .u8 (K.getD i 0) 15 = ((K.getD i 0 % 16).toNat : Int) := by
        obtain ⟨n, hn⟩ := Int.eq_ofNat_of_zero_le h8x.1
        have := h8x.2
        rw [hn]
        have e := u8_and_nat n 15 (by omega) (by omega)
        rw [show n &&& 15 = n % 16 from Nat.and_two_pow_sub_one_eq_mod n 4] at e
        rw [show ((15 : Nat) : Int) = 15 from rfl] at e
        rw [e]
        omega
      have hb1 : (K.getD i 0 / 16).toNat < 16 := by have := h8x.1; have := h8x.2; omega
      have hb2 : (K.getD i 0 % 16).toNat < 16 := by omega
      have e1 := fun w => hex_digit _ hb1 w
      have e2 := fun w => hex_digit _ hb2 w
      have hT := hexL_take K i hil
      have hx16 : hexd (K.getD i 0 / 16) = hexd ((K.getD i 0 / 16).toNat : Int) := by rw [← h16]
      have hy16 : hexd (K.getD i 0 % 16) = hexd ((K.getD i 0 % 16).toNat : Int) := by congr 1; omega
      rw [hx16, hy16] at hT
      have hlen : (hexL (K.take i)).length = 2 * i := by rw [hexL_len, List.length_take, HK.out]; omega
      have hlen2 : (hexL (K.take (i + 1))).length = 2 * i + 2 := by rw [hexL_len, List.length_take, HK.out]; omega
      have HO2 : Hid (∀ (v : Value) (w' : World), w'.ownsRow W.heap.size 5 1 v (2 * i + 2) ((hexL (K.take i)).map (Value.int .u8) ++ [hexd ((K.getD i 0 / 16).toNat : Int), hexd ((K.getD i 0 % 16).toNat : Int)].map (Value.int .u8)) → Own w' W.heap.size v (hexL (K.take (i + 1)))) := Lib.hid (by
        intro v w' h
        unfold Own
        rw [hlen2, ← hT, List.map_append]
        exact h)
      have hO' : wr.ownsRow W.heap.size 5 1 (.slice a3 (2 * i) c3) (2 * i) ((hexL (K.take i)).map (Value.int .u8)) := by
        unfold Own at hO
        rwa [hlen] at hO
      rw [hlen]
      obtain ⟨hx0, hx1⟩ := h8x
      have HB := Lib.hid hb
      have hsz := hb.size
      clear hO hlen hlen2 hT hx16 hy16 hil hb
      generalize (hexL (K.take i)).map (Value.int .u8) = xs at *
      generalize (K.getD i 0 % 16).toNat = lo at *
      generalize (K.getD i 0 / 16).toNat = hi4 at *
      generalize K.getD i 0 = x at *
      unfold hexS at e1 e2
      generalize hexd (hi4 : Int) = d1 at *
      generalize hexd (lo : Int) = d2 at *
      have hoB : ((wr.alloc (.cells #[.int .u8 d1, .int .u8 d2] 5)).drew).ownsRow W.heap.size 5 1 (.slice a3 (2 * i) c3) (2 * i) xs := hO'.alloc _
      have hsB : Sl ((wr.alloc (.cells #[.int .u8 d1, .int .u8 d2] 5)).drew) (some ⟨wr.heap.size, 0, none⟩) 2 [d1, d2] := sl_new wr [d1, d2] 2
      have hbB : Below W.heap.size W ((wr.alloc (.cells #[.int .u8 d1, .int .u8 d2] 5)).drew) := (HB.out.alloc HB.out.size _).drew
      have hcB : 2 * i + 2 ≤ 140737488355328 := by omega
      have HOB := Lib.hid hoB
      have HSB := Lib.hid hsB
      have HBB := Lib.hid hbB
      have hzB := hbB.size
      clear hoB hsB hbB
      go_wp2_with fail
      go_region_held3 (fun _ => True) (trivial) (first | (refine step_append_src (w := (wr.alloc (.cells #[.int .u8 d1, .int .u8 d2] 5)).drew) rfl _ _ 22 rfl W.heap.size i0 Tryd.underlying22 HI.out HZ0.out HZ1.out HZ2.out (.slice a3 (2 * i) c3) (2 * i) xs rfl HOB.out (some ⟨wr.heap.size, 0, none⟩) 2 2 [d1, d2] rfl rfl HSB.out hcB hzB ?_; intro v3 w3 ho3 hg3; have hb3 := after_append (Nat.le_refl _) hzB HOB.out HBB.out hg3))
      all_goals
        have HO3 := Lib.hid (HO2.out _ _ ho3)
        have HB3 := Lib.hid hb3
        clear ho3 hg3 hb3
        try go_wp2_with fail
        go_roundg (32 - (i + 1))
        case measure => omega
        case rel => exact ⟨i + 1, by omega, by go_num, HO3.out, HB3.out, rfl⟩
    · have e : K.take i = K := List.take_of_length_le (by rw [HK.out]; omega)
      rw [e] at hO
      obtain ⟨a4, c4, e4, hs4, -⟩ := hO.sl
      have hlen : (hexL K).length = 64 := by rw [hexL_len, HK.out]
      have he : hexL (K.take i) = hexL K := by rw [e]
      rw [he]
      have cv := conv_sl (w := wr) hs4
      obtain ⟨rfl, -, rfl⟩ : a3 = a4 ∧ True ∧ c3 = c4 := by simpa using e4
      have HB3 := Lib.hid (H3.out.trans (hb.mono H3.out.size))
      clear hO e4 hs4 he e hlen hb
      go_wp2_with fail
      go_ret
      exact ⟨rfl, HB3.out⟩
end Go.Proofs.YtapojahoaglgaaaDoor
