/-
  The walk over the statement on the limits of a message and on SizeBytes.
  Conditions: as typed.
-/
import Derived.Test.YtadngbpiepemjaaH5
namespace Go.Proofs.Ytadngbpiepemjaa
open Go.RowKit

/-- i times the bytes 8, 1. -/
def rep (i : Nat) : List Int := (List.replicate i f3).flatMap encF
theorem encF3 : encF f3 = [8, 1] := by decide +kernel
theorem rep_succ (i : Nat) : rep (i + 1) = rep i ++ [8, 1] := by
  unfold rep
  rw [List.replicate_succ', List.flatMap_append, List.flatMap_cons, List.flatMap_nil, encF3, List.append_nil]
theorem rep_len (i : Nat) : (rep i).length = 2 * i := by
  induction i with
  | zero => rfl
  | succ i ih => rw [rep_succ, List.length_append, ih]; simp; omega
theorem rep_bytes (i : Nat) : ∀ x, x ∈ rep i → W8 x := by
  intro x hx
  unfold rep at hx
  obtain ⟨f, hf, hxf⟩ := List.mem_flatMap.1 hx
  obtain rfl := List.eq_of_mem_replicate hf
  rw [encF3] at hxf
  simp at hxf
  unfold W8
  omega
theorem rep_vf (i : Nat) : ∀ f, f ∈ List.replicate i f3 → Vf f := fun _ hf => (List.eq_of_mem_replicate hf).symm ▸ vf3
theorem flds_few (k : Nat) (h : k ≤ 1024) : flds (rep k) = (List.replicate k f3, 0, 0) := by
  have h := flds_enc (List.replicate k f3) ((rep k).length + 1) [] 0 (rep_vf k) (by simpa using h) (Nat.lt_succ_self _)
  exact h
theorem flds_more (k : Nat) (hk : 1024 < k) : flds (rep k) = ([], 2048, 3) := by
  have h := flds_many (List.replicate k f3) ((rep k).length + 1) [] 0 (rep_vf k) (Nat.zero_le _) (by rw [List.length_replicate, List.length_nil]; omega) (Nat.lt_succ_self _)
  have e : ((List.replicate k f3).take (1024 - ([] : List Fld).length)).flatMap encF = rep 1024 := by
    unfold rep
    rw [List.take_replicate, List.length_nil, Nat.sub_zero, Nat.min_eq_left (by omega)]
  rw [e] at h
  refine Eq.trans h ?_
  rw [rep_len, show 0 + 2 * 1024 = 2048 by omega]
  rfl

set_option maxHeartbeats 2000000 in
set_option maxRecDepth 100000 in
theorem limits_core (n size : Int) (w : World) (hn : W8 n) :
    Calls Try.prog 7 #[.int .u8 n, .int .i64 size] w fun e w' => e = .returned (.bool true) ∧ Below w.heap.size w w' := by
  obtain ⟨hn0, hn1⟩ := hn
  obtain ⟨i0, hi, hz0, hz1, hz2⟩ := info_parts info5
  have HI := Lib.hid hi
  have HZ0 := Lib.hid hz0
  have HZ1 := Lib.hid hz1
  have HZ2 := Lib.hid hz2
  clear hi hz0 hz1 hz2
  obtain ⟨k, hk⟩ : ∃ k : Nat, 1023 + n % 3 = (k : Int) := ⟨(1023 + n % 3).toNat, by omega⟩
  have hk1 : 1023 ≤ k := by omega
  have hk2 : k ≤ 1025 := by omega
  go_enter Try.func7, Try.ntmps7
  go_wp2_with (at_make; refine wpList_make_own _ rfl _ _ 22 rfl w.heap.size 5 i0 (.int .u8 0) 1 Try.underlying22 HI.out HZ0.out HZ1.out .i64 .i64 _ (2 * k) rfl rfl ?c1 ?c2 ?c3 ?c4 ?_)
  case c1 => omega
  case c2 => rw [HZ2.out]; omega
  case c3 => unfold maxLen; omega
  case c4 => exact Nat.le_refl _
  intro w1 ho hgrow
  have hb := (Below.refl w.heap.size w).grown hgrow (Nat.le_refl _) (fun k hk => by cases hk)
  have ho' : Own w1 w.heap.size (.slice (some ⟨w.heap.size, 0, none⟩) 0 (2 * k)) (rep 0) := ho
  clear hgrow ho
  go_wp2_with fail
  go_loopg [6, 7] k (fun g s6 s7 wx => ∃ i : Nat, i ≤ k ∧ s7 = .int .i64 i ∧ Own wx w.heap.size s6 (rep i) ∧ Below w.heap.size w wx ∧ k - i = g)
  case atStart => exact ⟨0, by omega, rfl, ho', hb, rfl⟩
  case round =>
    obtain ⟨i, hi, rfl, ho, hbx, rfl⟩ := hrel
    have hsz := hbx.size
    by_cases hlt : i < k
    · have hl := rep_len i
      have HN := Lib.hid (sl_new wr [8, 1] 2)
      have HL := Lib.hid hl
      clear hl
      go_wp2_with (at_builtin; refine append_src rfl _ _ 22 rfl w.heap.size i0 Try.underlying22 HI.out HZ0.out HZ1.out HZ2.out _ (rep i).length _ rfl (World.ownsRow.alloc ho _) (some ⟨wr.heap.size, 0, none⟩) 2 2 [8, 1] rfl rfl HN.out ?e1 ?e2 ?_)
      case e1 => rw [HL.out]; omega
      case e2 => have := (hbx.alloc hsz (.cells #[.int .u8 8, .int .u8 1] 5)).size; omega
      intro v1 w2 ho2 hgrow
      have hb2 := after_append (Nat.le_refl _) (hbx.alloc hsz _).size (World.ownsRow.alloc ho _) (hbx.alloc hsz _) hgrow
      have HO : Hid (Own w2 w.heap.size v1 (rep (i + 1))) := by
        rw [rep_succ]
        show w2.ownsRow _ _ _ _ _ _
        rw [List.length_append, List.map_append]
        exact ho2
      clear hgrow ho ho2 HN
      go_wp2
      go_roundg (k - (i + 1))
      case measure => omega
      case rel => exact ⟨i + 1, by omega, by go_num, HO.out, hb2, rfl⟩
    · obtain rfl : i = k := by omega
      have hl := rep_len i
      obtain ⟨a2, c2, rfl, s2, hc2⟩ := ho.sl
      have cF := code_fields a2 c2 (rep i) wr (by omega) s2 (rep_bytes i) hc2
      have HL := Lib.hid hl
      clear hl ho s2
      by_cases hk3 : i ≤ 1024
      · rw [flds_few i hk3] at cF
        have hq : decide ((1024 : Int) < (i : Int)) = false := decide_eq_false (by omega)
        go_wp2_with fail
        refine cF.mono ?_
        rintro e w3 ⟨v3, ps, rfl, hps, hrow, hb3⟩
        have hpl : ps.length = i := by have := congrArg List.length hps; simpa using this
        obtain ⟨a3, c3, rfl, -⟩ := hrow.form
        have hbl := bnext hbx hb3
        rw [hpl]
        clear cF hps hrow hb3 hpl
        go_wp2_with fail
        obtain ⟨w4, hw4⟩ : ∃ w4, w4 = w3.alloc (.cells #[.int .i64 (size.tmod 1099511627776), .int .i64 (-1), .int .i64 0, .int .i64 127, .int .i64 128, .int .i64 16383, .int .i64 16384] 3) := ⟨_, rfl⟩
        have hB4 : Below w.heap.size w w4 := by rw [hw4]; exact hbl.alloc hbl.size _
        have HC : Hid (∀ j : Nat, j < 7 → ∃ x, x ≤ 1099511627776 ∧ w4.cell? ⟨w3.heap.size, j, none⟩ = some (.int .i64 x)) := by
          intro j hj
          rw [hw4, cell_of_row _ w3.heap.size j _ 3 (0, 0) (heap_alloc_new w3 _)]
          match j, hj with
          | 0, _ => exact ⟨size.tmod 1099511627776, Int.le_of_lt (Int.tmod_lt_of_pos _ (by decide)), rfl⟩
          | 1, _ => exact ⟨-1, by omega, rfl⟩
          | 2, _ => exact ⟨0, by omega, rfl⟩
          | 3, _ => exact ⟨127, by omega, rfl⟩
          | 4, _ => exact ⟨128, by omega, rfl⟩
          | 5, _ => exact ⟨16383, by omega, rfl⟩
          | 6, _ => exact ⟨16384, by omega, rfl⟩
        have hz : w3.heap.size < w4.heap.size := by rw [hw4]; simp
        rw [← hw4]
        have HB4 := Lib.hid hB4
        clear hw4 hbl hB4 hk
        go_loopg [67] 7 (fun g s67 wx => ∃ j : Nat, j ≤ 7 ∧ s67 = .int .i64 j ∧ Below w4.heap.size w4 wx ∧ 7 - j = g)
        case atStart => exact ⟨0, by omega, rfl, Below.refl _ _, rfl⟩
        case round =>
          obtain ⟨j, hj, rfl, hby, rfl⟩ := hrel
          by_cases hlt : j < 7
          · obtain ⟨x, hx, hc⟩ := HC.out j hlt
            have hc1 := (hby.cell (p := ⟨w3.heap.size, j, none⟩) hz).trans hc
            have cS := fun w => code_sizeBytes x w hx
            have cR := fun w => ref_sizeBytes x w hx
            generalize szB x = y at *
            clear hc
            go_wp2_with fail
            refine (cS _).mono ?_
            rintro e w5 ⟨rfl, rfl⟩
            go_wp2_with fail
            refine (cR _).mono ?_
            rintro e w5 ⟨rfl, hb5⟩
            have HB5 := Lib.hid (bnext hby hb5)
            clear cS cR hb5
            go_wp2
            go_roundg (7 - (j + 1))
            case measure => omega
            case rel => exact ⟨j + 1, by omega, by go_num, HB5.out, rfl⟩
          · go_wp2_with fail
            refine (known_true _).mono ?_
            rintro e w5 ⟨rfl, hb5⟩
            go_wp2
            go_ret
            exact ⟨rfl, bnext (bnext HB4.out hby) hb5⟩
      · rw [flds_more i (by omega)] at cF
        have hq : decide ((1024 : Int) < (i : Int)) = true := decide_eq_true (by omega)
        go_wp2_with fail
        refine cF.mono ?_
        rintro e w3 ⟨v3, ps, rfl, hps, hrow, hb3⟩
        have hpl : ps = [] := by simpa using hps
        subst hpl
        obtain ⟨a3, c3, rfl, -⟩ := hrow.form
        have hbl := bnext hbx hb3
        clear cF hps hrow hb3
        go_wp2_with fail
        obtain ⟨w4, hw4⟩ : ∃ w4, w4 = w3.alloc (.cells #[.int .i64 (size.tmod 1099511627776), .int .i64 (-1), .int .i64 0, .int .i64 127, .int .i64 128, .int .i64 16383, .int .i64 16384] 3) := ⟨_, rfl⟩
        have hB4 : Below w.heap.size w w4 := by rw [hw4]; exact hbl.alloc hbl.size _
        have HC : Hid (∀ j : Nat, j < 7 → ∃ x, x ≤ 1099511627776 ∧ w4.cell? ⟨w3.heap.size, j, none⟩ = some (.int .i64 x)) := by
          intro j hj
          rw [hw4, cell_of_row _ w3.heap.size j _ 3 (0, 0) (heap_alloc_new w3 _)]
          match j, hj with
          | 0, _ => exact ⟨size.tmod 1099511627776, Int.le_of_lt (Int.tmod_lt_of_pos _ (by decide)), rfl⟩
          | 1, _ => exact ⟨-1, by omega, rfl⟩
          | 2, _ => exact ⟨0, by omega, rfl⟩
          | 3, _ => exact ⟨127, by omega, rfl⟩
          | 4, _ => exact ⟨128, by omega, rfl⟩
          | 5, _ => exact ⟨16383, by omega, rfl⟩
          | 6, _ => exact ⟨16384, by omega, rfl⟩
        have hz : w3.heap.size < w4.heap.size := by rw [hw4]; simp
        rw [← hw4]
        have HB4 := Lib.hid hB4
        clear hw4 hbl hB4 hk
        go_loopg [67] 7 (fun g s67 wx => ∃ j : Nat, j ≤ 7 ∧ s67 = .int .i64 j ∧ Below w4.heap.size w4 wx ∧ 7 - j = g)
        case atStart => exact ⟨0, by omega, rfl, Below.refl _ _, rfl⟩
        case round =>
          obtain ⟨j, hj, rfl, hby, rfl⟩ := hrel
          by_cases hlt : j < 7
          · obtain ⟨x, hx, hc⟩ := HC.out j hlt
            have hc1 := (hby.cell (p := ⟨w3.heap.size, j, none⟩) hz).trans hc
            have cS := fun w => code_sizeBytes x w hx
            have cR := fun w => ref_sizeBytes x w hx
            generalize szB x = y at *
            clear hc
            go_wp2_with fail
            refine (cS _).mono ?_
            rintro e w5 ⟨rfl, rfl⟩
            go_wp2_with fail
            refine (cR _).mono ?_
            rintro e w5 ⟨rfl, hb5⟩
            have HB5 := Lib.hid (bnext hby hb5)
            clear cS cR hb5
            go_wp2
            go_roundg (7 - (j + 1))
            case measure => omega
            case rel => exact ⟨j + 1, by omega, by go_num, HB5.out, rfl⟩
          · go_wp2_with fail
            refine (known_true _).mono ?_
            rintro e w5 ⟨rfl, hb5⟩
            go_wp2
            go_ret
            exact ⟨rfl, bnext (bnext HB4.out hby) hb5⟩
end Go.Proofs.Ytadngbpiepemjaa
