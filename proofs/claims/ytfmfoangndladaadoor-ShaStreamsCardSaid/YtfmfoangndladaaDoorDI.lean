/-
  The walk of ShaIndependent.
-/
import Derived.Test.YtfmfoangndladaaDoorDS
namespace Go.Proofs.YtfmfoangndladaaDoor
open Go.RowKit

theorem key_zero (w : World) : (Op.equalIn 10000 26 (.agg (w8s [0, 0, 0, 0, 0, 0, 0, 0, 0, 0, 0, 0, 0, 0, 0, 0, 0, 0, 0, 0, 0, 0, 0, 0, 0, 0, 0, 0, 0, 0, 0, 0])) (.agg #[.int .u8 0, .int .u8 0, .int .u8 0, .int .u8 0, .int .u8 0, .int .u8 0, .int .u8 0, .int .u8 0, .int .u8 0, .int .u8 0, .int .u8 0, .int .u8 0, .int .u8 0, .int .u8 0, .int .u8 0, .int .u8 0, .int .u8 0, .int .u8 0, .int .u8 0, .int .u8 0, .int .u8 0, .int .u8 0, .int .u8 0, .int .u8 0, .int .u8 0, .int .u8 0, .int .u8 0, .int .u8 0, .int .u8 0, .int .u8 0, .int .u8 0, .int .u8 0])).run Tryd.prog w = .ok true w :=
  key_in [0, 0, 0, 0, 0, 0, 0, 0, 0, 0, 0, 0, 0, 0, 0, 0, 0, 0, 0, 0, 0, 0, 0, 0, 0, 0, 0, 0, 0, 0, 0, 0] rfl w
/-- One byte of a slice is written. -/
theorem piece_write (g i : Nat) (a : Option Addr) (c : Nat) (L : List Int) (w : World) (hG : Glob w) (h2 : 2 ≤ g) (hD : DM w g (L.take i)) (hi : i < L.length) (hs : Sl w a c L) (ho : Off a g) (hc : L.length ≤ c) (h8 : ∀ x, x ∈ L → W8 x) (hl : L.length ≤ 1000) :
    Calls Tryd.prog 11 #[.pointer (some ⟨g, 0, none⟩), .slice (fromA a c i) 1 (c - i)] w fun e w' => e = .returned (.tuple #[]) ∧ DM w' g (L.take (i + 1)) ∧ But g w w' := by
  have hl1 : ((L.drop i).take 1).length = 1 := by simp; omega
  have := write_any g (L.take i) ((L.drop i).take 1) (fromA a c i) (c - i) w hG h2 hD (sl_take (sl_from hs i hc) 1) (fun _ => ho.from) (by rw [hl1]; omega) (fun x hx => h8 x (List.mem_of_mem_drop (List.mem_of_mem_take hx))) (by rw [hl1]; simp; omega)
  rw [hl1, ← List.take_add] at this
  exact this

set_option maxRecDepth 100000 in
theorem ind_long (a : Option Addr) (la ca : Nat) (b : Option Addr) (lb cb : Nat) (w : World) (hl : 300 < la + lb) (h1 : la ≤ 140737488351232) (h2 : lb ≤ 140737488351232) (hG : Glob w) :
    Calls Tryd.prog 5 #[.slice a la ca, .slice b lb cb] w fun e w' => e = .returned (.bool true) ∧ Below w.heap.size w w' := by
  have hb : decide ((300 : Int) < (la : Int) + (lb : Int)) = true := decide_eq_true (by omega)
  have hw : IntKind.i64.wrap ((la : Int) + (lb : Int)) = (la : Int) + (lb : Int) := by rw [IntKind.wrap_i64]; omega
  have C := known_true w hG
  go_enter Tryd.func5, Tryd.ntmps5
  go_wp2_with (go_at_call 7; refine C.mono ?_; rintro e w1 ⟨rfl, hb1⟩)
  go_ret
  exact ⟨rfl, hb1⟩

set_option maxRecDepth 100000 in
set_option maxHeartbeats 8000000 in
theorem ind_core (a : Option Addr) (ca : Nat) (A : List Int) (b : Option Addr) (cb : Nat) (B : List Int) (w : World) (hca : A.length ≤ ca) (hsa : Sl w a ca A) (h8a : ∀ x, x ∈ A → W8 x)
    (hcb : B.length ≤ cb) (hsb : Sl w b cb B) (h8b : ∀ x, x ∈ B → W8 x) (hl : A.length + B.length ≤ 300) (hG : Glob w) :
    Calls Tryd.prog 5 #[.slice a A.length ca, .slice b B.length cb] w fun e w' => e = .returned (.bool true) ∧ Below w.heap.size w w' := by
  have hg2 := hG.size
  have CN1 := new_any w hG
  have hbN := (Below.refl w.heap.size w).alloc (Nat.le_refl _) (.cells (digs h0s z64 0).toArray 43)
  have hM1 := DM.new w
  have hs1 : (w.alloc (.cells (digs h0s z64 0).toArray 43)).heap.size = w.heap.size + 1 := by simp
  have hG1 := hG.below hg2 hbN
  have CN2 := new_any _ hG1
  have hbN2 := (Below.refl (w.alloc (.cells (digs h0s z64 0).toArray 43)).heap.size _).alloc (Nat.le_refl _) (.cells (digs h0s z64 0).toArray 43)
  have hM2 := DM.new (w.alloc (.cells (digs h0s z64 0).toArray 43))
  have hM1' := hM1.below (by omega) hbN2
  have hbW := hbN.trans (hbN2.mono (by omega))
  rw [hs1] at CN2 hM2
  generalize (w.alloc (.cells (digs h0s z64 0).toArray 43)).alloc (.cells (digs h0s z64 0).toArray 43) = W at *
  generalize w.alloc (.cells (digs h0s z64 0).toArray 43) = W1 at *
  have HM1 := Lib.hid hM1'
  have HM2 := Lib.hid hM2
  have HBW := Lib.hid hbW
  have HG := Lib.hid hG
  have HSA := Lib.hid hsa
  have HSB := Lib.hid hsb
  have H8A := Lib.hid h8a
  have H8B := Lib.hid h8b
  clear hG hbN hM1 hs1 hG1 hbN2 hM2 hM1' hbW hsa hsb h8a h8b
  generalize hla : A.length = la at *
  have HLA := Lib.hid hla
  generalize hlb : B.length = lb at *
  have HLB := Lib.hid hlb
  clear hla hlb
  have hnl : decide ((300 : Int) < (la : Int) + (lb : Int)) = false := decide_eq_false (by omega)
  go_enter Tryd.func5, Tryd.ntmps5
  go_wp2_with (first
    | (have q := q1; go_at_call 10; refine CN2.mono ?_; rintro e w2 ⟨rfl, rfl⟩)
    | (go_at_call 10; refine CN1.mono ?_; rintro e w1 ⟨rfl, rfl⟩; have q1 := hl))
  go_loopg [7] (la + lb) (fun g s7 wx => ∃ i : Nat, i ≤ la + lb ∧ s7 = .int .i64 i ∧ DM wx w.heap.size (A.take i) ∧ DM wx (w.heap.size + 1) (B.take i) ∧ Below w.heap.size w wx ∧ la + lb - i = g)
  case atStart => exact ⟨0, by omega, by go_num, HM1.out, HM2.out, HBW.out, rfl⟩
  case round =>
    clear HM1 HM2 HBW CN1 CN2
    obtain ⟨i, hi, rfl, hD, hE, hbw, hgk⟩ := hrel
    have hGr := HG.out.below hg2 hbw
    have hsl1 : ∀ w, (Instr.slice 22 (.slice a la ca) (some (.int .i64 (i : Int))) (some (.int .i64 ((i : Int) + 1))) none).run Tryd.prog w = .ok (.slice (fromA a ca i) 1 (ca - i)) w ∨ la ≤ i := fun w => by
      by_cases h : i < la
      · left
        have := slice_part .i64 .i64 a la ca i (i + 1) w (by omega) (by omega)
        rw [show i + 1 - i = 1 by omega] at this
        simpa using this
      · exact .inr (by omega)
    have hsl2 : ∀ w, (Instr.slice 22 (.slice b lb cb) (some (.int .i64 (i : Int))) (some (.int .i64 ((i : Int) + 1))) none).run Tryd.prog w = .ok (.slice (fromA b cb i) 1 (cb - i)) w ∨ lb ≤ i := fun w => by
      by_cases h : i < lb
      · left
        have := slice_part .i64 .i64 b lb cb i (i + 1) w (by omega) (by omega)
        rw [show i + 1 - i = 1 by omega] at this
        simpa using this
      · exact .inr (by omega)
    by_cases hA : i < la
    · have hsA : ∀ w, (Instr.slice 22 (.slice a la ca) (some (.int .i64 (i : Int))) (some (.int .i64 ((i : Int) + 1))) none).run Tryd.prog w = .ok (.slice (fromA a ca i) 1 (ca - i)) w := fun w => (hsl1 w).resolve_right (by omega)
      have CD := piece_write w.heap.size i a ca A wr hGr hg2 hD (by rw [HLA.out]; omega) (sl_below HSA.out hbw) (HSA.out.off (Nat.le_refl _) (by intro e; have := HLA.out; rw [e] at this; simp at this; omega)) (by rw [HLA.out]; omega) H8A.out (by rw [HLA.out]; omega)
      by_cases hB : i < lb
      · have hsB : ∀ w, (Instr.slice 22 (.slice b lb cb) (some (.int .i64 (i : Int))) (some (.int .i64 ((i : Int) + 1))) none).run Tryd.prog w = .ok (.slice (fromA b cb i) 1 (cb - i)) w := fun w => (hsl2 w).resolve_right (by omega)
        have CE := fun w' (hb : But w.heap.size wr w') => piece_write (w.heap.size + 1) i b cb B w' (hb.glob hg2 hGr) (by omega) (hE.but (by omega) hb) (by rw [HLB.out]; omega) (sl_below HSB.out (hbw.trans (hb.below (Nat.le_refl _)))) (HSB.out.off (by omega) (by intro e; have := HLB.out; rw [e] at this; simp at this; omega)) (by rw [HLB.out]; omega) H8B.out (by rw [HLB.out]; omega)
        have HBW := Lib.hid hbw
        have HE := Lib.hid hE
        clear hD hE hbw hGr hsl1 hsl2
        go_wp2_with (first
          | (have q := q2; go_at_call 11; refine (CE _ hb1.out).mono ?_; rintro e w2 ⟨rfl, hE2, hb2⟩)
          | (go_at_call 11; refine CD.mono ?_; rintro e w1 ⟨rfl, hD1, hb1'⟩; have q2 := hA; have hb1 := Lib.hid hb1'; have HD1 := Lib.hid hD1; clear hb1' hD1))
        go_roundg (la + lb - (i + 1))
        case measure => omega
        case rel => exact ⟨i + 1, by omega, by go_num, HD1.out.but (by omega) hb2, hE2, (HBW.out.trans (hb1.out.below (Nat.le_refl _))).trans (hb2.below (by omega)), rfl⟩
      · have HBW := Lib.hid hbw
        have HE := Lib.hid hE
        have HET : Hid (B.take (i + 1) = B.take i) := Lib.hid (by rw [List.take_of_length_le (by rw [HLB.out]; omega), List.take_of_length_le (by rw [HLB.out]; omega)])
        clear hD hE hbw hGr hsl1 hsl2
        go_wp2_with (go_at_call 11; refine CD.mono ?_; rintro e w1 ⟨rfl, hD1, hb1⟩)
        go_roundg (la + lb - (i + 1))
        case measure => omega
        case rel => exact ⟨i + 1, by omega, by go_num, hD1, by rw [HET.out]; exact HE.out.but (by omega) hb1, HBW.out.trans (hb1.below (Nat.le_refl _)), rfl⟩
    · by_cases hB : i < lb
      · have hsB : ∀ w, (Instr.slice 22 (.slice b lb cb) (some (.int .i64 (i : Int))) (some (.int .i64 ((i : Int) + 1))) none).run Tryd.prog w = .ok (.slice (fromA b cb i) 1 (cb - i)) w := fun w => (hsl2 w).resolve_right (by omega)
        have CE := piece_write (w.heap.size + 1) i b cb B wr hGr (by omega) hE (by rw [HLB.out]; omega) (sl_below HSB.out hbw) (HSB.out.off (by omega) (by intro e; have := HLB.out; rw [e] at this; simp at this; omega)) (by rw [HLB.out]; omega) H8B.out (by rw [HLB.out]; omega)
        have HBW := Lib.hid hbw
        have HD := Lib.hid hD
        have HDT : Hid (A.take (i + 1) = A.take i) := Lib.hid (by rw [List.take_of_length_le (by rw [HLA.out]; omega), List.take_of_length_le (by rw [HLA.out]; omega)])
        clear hD hE hbw hGr hsl1 hsl2
        go_wp2_with (go_at_call 11; refine CE.mono ?_; rintro e w1 ⟨rfl, hE1, hb1⟩)
        go_roundg (la + lb - (i + 1))
        case measure => omega
        case rel => exact ⟨i + 1, by omega, by go_num, by rw [HDT.out]; exact HD.out.but (by omega) hb1, hE1, HBW.out.trans (hb1.below (by omega)), rfl⟩
      · rw [List.take_of_length_le (by rw [HLA.out]; omega)] at hD
        rw [List.take_of_length_le (by rw [HLB.out]; omega)] at hE
        clear hsl1 hsl2
        obtain ⟨SA, hSA⟩ : ∃ S, S = shaL A := ⟨_, rfl⟩
        obtain ⟨SB, hSB⟩ : ∃ S, S = shaL B := ⟨_, rfl⟩
        have hSAl : SA.length = 32 := by rw [hSA]; exact shaL_len _
        have hSBl : SB.length = 32 := by rw [hSB]; exact shaL_len _
        have C1 := sum_any w.heap.size A wr hGr hg2 hD (by rw [HLA.out]; omega)
        have C2 := fun w' (hb : Below wr.heap.size wr w') => ref_sha a ca A w' (sl_below (sl_below HSA.out hbw) hb) H8A.out (by rw [HLA.out]; omega)
        have C3 := fun w' (hb : Below wr.heap.size wr w') => sum_any (w.heap.size + 1) B w' (hGr.below hGr.size hb) (by omega) (hE.below hE.lt hb) (by rw [HLB.out]; omega)
        have C4 := fun w' (hb : Below wr.heap.size wr w') => ref_sha b cb B w' (sl_below (sl_below HSB.out hbw) hb) H8B.out (by rw [HLB.out]; omega)
        have C5 := fun w' (hb : Below wr.heap.size wr w') => known_true w' (hGr.below hGr.size hb)
        rw [← hSA] at C1
        rw [HLA.out, ← hSA] at C2
        rw [← hSB] at C3
        rw [HLB.out, ← hSB] at C4
        have CW := write_nil a la ca wr
        have hkeA := fun w => key_in SA hSAl w
        have hkeB := fun w => key_in SB hSBl w
        have hkg := key_guard
        have hkz := key_zero
        have HBW := Lib.hid hbw
        clear hD hE hGr hbw hSA hSB hSAl hSBl
        go_upto_region 15 with (go_at_call 11; refine CW.mono ?_; rintro e w1 ⟨rfl, rfl⟩)
        clear CW
        go_wp2_with (first
          | (have q := m4; go_at_call 12; refine (sum_nil _).mono ?_; rintro e w5 ⟨rfl, hb5'⟩; have hb5 := hb4.trans (hb5'.mono hb4.size); clear hb5')
          | (have q := m2; go_at_call 12; refine (C3 _ hb2).mono ?_; rintro e w3 ⟨rfl, hb3'⟩; have hb3 := hb2.trans (hb3'.mono hb2.size); have m3 := hA; clear hb3')
          | (go_at_call 12; refine C1.mono ?_; rintro e w1 ⟨rfl, hb1⟩; have m1 := hA)
          | (have q := m3; go_at_call 9; refine (C4 _ hb3).mono ?_; rintro e w4 ⟨rfl, hb4'⟩; have hb4 := hb3.trans (hb4'.mono hb3.size); have m4 := hA; clear hb4')
          | (go_at_call 9; refine (C2 _ hb1).mono ?_; rintro e w2 ⟨rfl, hb2'⟩; have hb2 := hb1.trans (hb2'.mono hb1.size); have m2 := hA; clear hb2')
          | (go_at_call 13; refine (len_nil _).mono ?_; rintro e w' ⟨rfl, rfl⟩)
          | (go_at_call 7; refine (C5 _ hb5).mono ?_; rintro e w6 ⟨rfl, hb6'⟩; have hb6 := hb5.trans (hb6'.mono hb5.size); clear hb6'))
        go_ret
        exact ⟨rfl, HBW.out.trans (hb6.mono HBW.out.size)⟩
end Go.Proofs.YtfmfoangndladaaDoor
