/-
  MoneySums returns true for every input: Sum returns the exact sum, or that there is none, whatever the order is; the arguments read afterwards as before.
  Conditions: none beyond the statement's own.
-/
import Derived.Test.YtpabdkblmfeopaaRows
import Derived.WalkKit
import Derived.Test.YtpabdkblmfeopaaP1
import Derived.ProofKit
import Derived.OpenShut
import Derived.ShutString
import Derived.ChangeOld
import Derived.Below
namespace Go.Proofs.Ytpabdkblmfeopaa.moneySums
open Go.ChangeShapes Go.WideShapes Go.ChangeAt Go.RowKit
open Go.ChangeMaps (open_string shut_string)
set_option linter.unusedVariables false

theorem own : ownKnob Try.prog.godebug = none := by kernel_rfl
theorem laidOut : laidOutB Try.prog = true := by kernel_rfl

/-- WHAT THE WALK IS TOLD OF A SLICE OF INTEGERS THAT CAME IN: it is nil; or it leads to a row of 'cap' cells, the numbers 'zs' (the first 'len' are its elements, the rest its spare room), each fitting its kind. -/
def IsRow (k : IntKind) (w : World) (a : Option Addr) (len cap : Nat) (zs : List Int) : Prop :=
  (a = none ∧ len = 0 ∧ cap = 0 ∧ zs = []) ∨
  ∃ x, a = some x ∧ len ≤ cap ∧ cap ≤ maxLen ∧ zs.length = cap ∧ (∀ i, i < zs.length → w.cell? (x.add i) = some (.int k (zs.getD i 0))) ∧ ∀ n ∈ zs, (Lit.int k n).wf = true

/-! ### STEP 1: THE WALK: the Go text returns true, AND WRITES NOTHING THAT WAS THERE: 'Below w.heap.size w w'' (Derived/Below.lean: '.refl', '.alloc', '.drew', '.setCell' at a new block, '.trans'). Open each 'IsRow' by 'rcases' AHEAD of 'go_enter'; part every test ahead of the walk. -/
theorem word_of_wf {x : Int} (h : (Lit.int .u64 x).wf = true) : W64 x := by
  simp [Lit.wf, IntKind.min, IntKind.max, IntKind.signed, IntKind.bits] at h
  exact ⟨by omega, by omega⟩

theorem half_of_wf {x : Int} (h : (Lit.int .u16 x).wf = true) : 0 ≤ x ∧ x ≤ 65535 := by
  simp [Lit.wf, IntKind.min, IntKind.max, IntKind.signed, IntKind.bits] at h
  exact ⟨by omega, by omega⟩
theorem idx0 (a : Option Addr) (n c : Nat) (v : Value) (w : World) : (Instr.index 40 (.agg #[.slice a n c, v]) (.int .i64 0)).run Try.prog w = .ok (.slice a n c) w := by kernel_rfl
theorem idx1 (v : Value) (a : Option Addr) (n c : Nat) (w : World) : (Instr.index 40 (.agg #[v, .slice a n c]) (.int .i64 1)).run Try.prog w = .ok (.slice a n c) w := by kernel_rfl

set_option maxHeartbeats 1000000 in
set_option maxRecDepth 100000 in
theorem long0 (a0 : Option Addr) (n0 cap0 : Nat) (a1 : Option Addr) (n1 cap1 : Nat) (w : World) (h : 60 < n0) :
    Calls Try.prog 8 #[.slice a0 n0 cap0, .slice a1 n1 cap1] w fun e w' => e = .returned (.bool true) ∧ Below w.heap.size w w' := by
  have hb : decide ((60 : Int) < (n0 : Int)) = true := decide_eq_true (by omega)
  go_enter Try.func8, Try.ntmps8
  go_wp2_with (go_at_call 15; refine (known _).mono ?_; rintro e w' ⟨rfl, n, rfl⟩)
  go_ret
  exact ⟨rfl, (below_drewN (Below.refl _ _) n).alloc (Nat.le_refl _) _⟩

set_option maxHeartbeats 1000000 in
set_option maxRecDepth 100000 in
theorem long1 (a0 : Option Addr) (n0 cap0 : Nat) (a1 : Option Addr) (n1 cap1 : Nat) (w : World) (h0 : n0 ≤ 60) (h : 60 < n1) :
    Calls Try.prog 8 #[.slice a0 n0 cap0, .slice a1 n1 cap1] w fun e w' => e = .returned (.bool true) ∧ Below w.heap.size w w' := by
  have hb : decide ((60 : Int) < (n0 : Int)) = false := decide_eq_false (by omega)
  have hb1 : decide ((60 : Int) < (n1 : Int)) = true := decide_eq_true (by omega)
  go_enter Try.func8, Try.ntmps8
  go_wp2_with (go_at_call 15; refine (known _).mono ?_; rintro e w' ⟨rfl, n, rfl⟩)
  go_ret
  exact ⟨rfl, (below_drewN (Below.refl _ _) n).alloc (Nat.le_refl _) _⟩

theorem shl_words (S : List Int) (h : ∀ x, x ∈ S → 0 ≤ x ∧ x ≤ 65535) : ∀ x, x ∈ Shl S → W64 x := by
  intro x hx
  obtain ⟨y, hy, rfl⟩ := List.mem_map.1 hx
  have := h y hy
  exact ⟨by omega, by omega⟩

set_option maxHeartbeats 4000000 in
set_option maxRecDepth 100000 in
theorem core (a0 : Option Addr) (cap0 : Nat) (L : List Int) (a1 : Option Addr) (cap1 : Nat) (S : List Int) (w : World) (hL : L.length ≤ 60) (hS : S.length ≤ 60) (r0 : Reads .u64 w a0 L) (r1 : Reads .u16 w a1 S)
    (wL : Hid (∀ x, x ∈ L → W64 x)) (wS : Hid (∀ x, x ∈ S → 0 ≤ x ∧ x ≤ 65535)) :
    Calls Try.prog 8 #[.slice a0 L.length cap0, .slice a1 S.length cap1] w fun e w' => e = .returned (.bool true) ∧ Below w.heap.size w w' := by
  have hb : decide ((60 : Int) < (L.length : Int)) = false := decide_eq_false (by omega)
  have hb1 : decide ((60 : Int) < (S.length : Int)) = false := decide_eq_false (by omega)
  obtain ⟨i0, hi, hz0, hz1, hz2⟩ := info_parts info22
  have HI := Lib.hid hi
  have HZ0 := Lib.hid hz0
  have HZ1 := Lib.hid hz1
  have HZ2 := Lib.hid hz2
  clear hi hz0 hz1 hz2
  go_enter Try.func8, Try.ntmps8
  go_wp2_with fail
  clear hb hb1
  go_loopg [5, 31] S.length (fun g s5 s31 wx => ∃ k : Nat, k ≤ S.length ∧ s31 = .int .i64 k ∧ wx.ownsRow w.heap.size 22 1 s5 k ((Shl (S.take k)).map (Value.int .u64)) ∧ Below w.heap.size w wx ∧ S.length - k = g)
  case atStart => exact ⟨0, by omega, rfl, World.ownsRow_nil _ _ _ _, Below.refl _ _, rfl⟩
  case round =>
    obtain ⟨k, hk, rfl, hown, hnx, rfl⟩ := hrel
    by_cases hlt : k < S.length
    · obtain ⟨b, off, ea, hc⟩ := reads_below r1 hnx k hlt
      have hx := wS.out (S.getD k 0) (by rw [List.getD_eq_getElem?_getD, List.getElem?_eq_getElem hlt]; exact List.getElem_mem hlt)
      have HX := Lib.hid (shl_take S k hlt)
      obtain ⟨x, hxe⟩ : ∃ x, S.getD k 0 = x := ⟨_, rfl⟩
      rw [hxe] at hc hx HX
      clear hxe
      subst ea
      have hsz := hnx.size
      go_wp2_with (at_builtin; refine wpList_append_own _ rfl _ _ 37 rfl w.heap.size 22 i0 (.int .u64 0) 1 8 Try.underlying37 HI.out HZ0.out HZ1.out HZ2.out rfl (by decide) _ _ _ rfl (hown.alloc _) ⟨wr.heap.size, 0, none⟩ 1 1 [.int .u64 (x * 1099511627776)] rfl rfl ?c1 ?c2 ?c3 ?c4 ?c5 ?_)
      case c1 =>
        intro j u hj
        match j, hj with
        | 0, hj => simp at hj; subst hj; simp [Addr.add]
      case c2 => intro u hu; simp at hu; subst hu; rfl
      case c3 => unfold maxLen; omega
      case c4 => omega
      case c5 => simp; omega
      intro v' w1 hown' hgrow _
      have R := after_append (Nat.le_refl _) hsz hown hnx hown' hgrow
      rw [← HX.out] at R
      have R1 := Lib.hid R.1
      have R2 := Lib.hid R.2
      clear hown' hgrow hown hnx R hc
      go_wp2
      go_roundg (S.length - (k + 1))
      case measure => omega
      case rel => exact ⟨k + 1, by omega, by first | rfl | go_num, R1.out, R2.out, rfl⟩
    · obtain rfl : k = S.length := by omega
      rw [List.take_length] at hown
      obtain ⟨a5, c5, rfl, hr5, hlt5, hn5⟩ := reads_own hown
      have q0 := reads_below r0 hnx
      obtain ⟨w2, rfl⟩ : ∃ w2 : World, w2 = wr := ⟨_, rfl⟩
      clear r1 hown hlt5 hn5
      go_wp2_with fail
      go_loopg [6, 9] L.length (fun g s6 s9 wx => ∃ j : Nat, j ≤ L.length ∧ s9 = .int .i64 ((j : Int) - 1) ∧ wx.ownsRow w2.heap.size 22 1 s6 (L.length - j) ((L.drop j).reverse.map (Value.int .u64)) ∧ Below w2.heap.size w2 wx ∧ j = g)
      case atStart => exact ⟨L.length, Nat.le_refl _, by first | rfl | go_num, by rw [List.drop_length, Nat.sub_self]; exact World.ownsRow_nil _ _ _ _, Below.refl _ _, rfl⟩
      case round =>
        obtain ⟨j, hj, rfl, hown, hny, rfl⟩ := hrel
        by_cases hz : j = 0
        · subst hz
          rw [show (((0 : Nat) : Int) - 1) = -1 from rfl]
          rw [List.drop_zero] at hown
          obtain ⟨a6, c6, ev, hr6, hlt6, hn6⟩ := reads_own hown
          rw [List.length_reverse] at ev
          subst ev
          have p0 := reads_below q0 hny
          have p5 := reads_below hr5 hny
          have hB := hnx.trans (hny.mono hnx.size)
          have hsz := hB.size
          obtain ⟨w3, rfl⟩ : ∃ w3 : World, w3 = wr := ⟨_, rfl⟩
          have HB := Lib.hid hB
          clear hown hlt6 hn6 hny hnx q0 hr5 r0 hB
          have wSh := getD_words (Shl S) (shl_words S wS.out)
          have wL' := getD_words L wL.out
          have wR := getD_words L.reverse (fun x hx => wL.out x (List.mem_reverse.1 hx))
          have lS : (Shl S).length ≤ 9223372036854775807 := by rw [shl_len]; omega
          have lR : L.reverse.length ≤ 9223372036854775807 := by rw [List.length_reverse]; omega
          have s1 := money_sum a0 cap0 L w3 (by omega) p0 wL'
          have s2 := ref_sum a0 cap0 L w3 (by omega) p0 wL'
          have s3 := money_sum a5 c5 (Shl S) w3 lS p5 wSh
          have s4 := ref_sum a5 c5 (Shl S) w3 lS p5 wSh
          have s5 := money_sum a6 c6 L.reverse w3 lR hr6 wR
          rw [(sum_reverse L).1, (sum_reverse L).2, List.length_reverse] at s5
          clear wSh wL' wR lS lR p0 p5 hr6
          generalize sumV L = v1 at *
          generalize sumB L = b1 at *
          generalize sumV (Shl S) = v2 at *
          generalize sumB (Shl S) = b2 at *
          have j0 := idx0 a0 L.length cap0 (.slice a5 (Shl S).length c5)
          have j1 := idx1 (.slice a0 L.length cap0) a5 (Shl S).length c5
          go_wp2_with fail
          go_loopg [59] 2 (fun g s59 wx => w3 = wx ∧ ∃ i : Int, 0 ≤ i ∧ i ≤ 2 ∧ s59 = .int .i64 i ∧ (2 - i).toNat = g)
          case atStart => exact ⟨rfl, 0, by omega, by omega, rfl, rfl⟩
          case round =>
            obtain ⟨rfl, i, hi0, hi2, rfl, rfl⟩ := hrel
            obtain rfl | rfl | rfl : i = 0 ∨ i = 1 ∨ i = 2 := by omega
            · go_wp2_with fail
              refine s1.mono ?_
              rintro e w' ⟨rfl, rfl⟩
              go_wp2_with fail
              refine s2.mono ?_
              rintro e w' ⟨rfl, rfl⟩
              go_wp2_with fail
              go_roundg 1
              case measure => omega
              case rel => exact ⟨rfl, 1, by omega, by omega, by first | rfl | go_num, by omega⟩
            · go_wp2_with fail
              refine s3.mono ?_
              rintro e w' ⟨rfl, rfl⟩
              go_wp2_with fail
              refine s4.mono ?_
              rintro e w' ⟨rfl, rfl⟩
              go_wp2_with fail
              go_roundg 0
              case measure => omega
              case rel => exact ⟨rfl, 2, by omega, by omega, by first | rfl | go_num, by omega⟩
            · go_wp2_with fail
              refine s1.mono ?_
              rintro e w' ⟨rfl, rfl⟩
              go_wp2_with fail
              refine s5.mono ?_
              rintro e w' ⟨rfl, rfl⟩
              go_wp2_with fail
              refine (known _).mono ?_
              rintro e w' ⟨rfl, n, rfl⟩
              go_wp2
              go_ret
              exact ⟨rfl, (below_drewN HB.out n).alloc hsz _⟩
        · obtain ⟨m, rfl⟩ : ∃ m, j = m + 1 := ⟨j - 1, by omega⟩
          rw [show (((m + 1 : Nat) : Int) - 1) = (m : Int) by omega]
          have hlt : m < L.length := by omega
          obtain ⟨b, off, ea, hc⟩ := reads_below q0 hny m hlt
          have HX := Lib.hid (congrArg (List.map (Value.int IntKind.u64)) (drop_rev L m hlt))
          obtain ⟨x, hxe⟩ : ∃ x, L.getD m 0 = x := ⟨_, rfl⟩
          rw [hxe] at hc HX
          rw [List.map_append] at HX
          clear hxe
          subst ea
          have hsz := hny.size
          have hn : L.length - m = L.length - (m + 1) + 1 := by omega
          have HN := Lib.hid hn
          clear hn
          go_wp2_with (at_builtin; refine wpList_append_own _ rfl _ _ 37 rfl w2.heap.size 22 i0 (.int .u64 0) 1 8 Try.underlying37 HI.out HZ0.out HZ1.out HZ2.out rfl (by decide) _ _ _ rfl (hown.alloc _) ⟨wr.heap.size, 0, none⟩ 1 1 [.int .u64 x] rfl rfl ?d1 ?d2 ?d3 ?d4 ?d5 ?_)
          case d1 =>
            intro j u hj
            match j, hj with
            | 0, hj => simp at hj; subst hj; simp [Addr.add]
          case d2 => intro u hu; simp at hu; subst hu; rfl
          case d3 => unfold maxLen; omega
          case d4 => omega
          case d5 => simp; omega
          intro v' w1 hown' hgrow _
          rw [← List.map_drop, ← List.map_reverse] at hown'
          have R := after_append (Nat.le_refl _) hsz hown hny hown' hgrow
          have R1 : Hid (w1.ownsRow w2.heap.size 22 1 v' (L.length - m) (((L.drop m).reverse).map (Value.int .u64))) := by rw [HX.out, HN.out]; exact Lib.hid R.1
          have R2 := Lib.hid R.2
          clear hown' hgrow hown hny R hc
          go_wp2
          go_roundg m
          case measure => omega
          case rel => exact ⟨m, by omega, by first | rfl | go_num, R1.out, R2.out, rfl⟩

/-- The walk's slice reads as its first elements. -/
theorem reads_row {K : IntKind} {w : World} {a : Option Addr} {len cap : Nat} {zs : List Int} (h : IsRow K w a len cap zs) : Reads K w a (zs.take len) ∧ (zs.take len).length = len ∧ ∀ x, x ∈ zs.take len → (Lit.int K x).wf = true := by
  rcases h with ⟨rfl, rfl, rfl, rfl⟩ | ⟨x, rfl, h1, h2, h3, h4, h5⟩
  · exact ⟨fun k hk => by simp at hk, rfl, fun x hx => by simp at hx⟩
  · have hlen : (zs.take len).length = len := by rw [List.length_take]; omega
    refine ⟨fun k hk => ?_, hlen, fun y hy => h5 y (List.mem_of_mem_take hy)⟩
    obtain ⟨b, off, rfl, hc⟩ := ints_at h4 (by omega)
    refine ⟨b, off, rfl, ?_⟩
    rw [hc k (by omega), List.getD_eq_getElem?_getD, List.getD_eq_getElem?_getD, List.getElem?_take, if_pos (by omega)]

theorem walk (a0 : Option Addr) (len0 cap0 : Nat) (z0 : List Int) (a1 : Option Addr) (len1 cap1 : Nat) (z1 : List Int) (w : World) (w0 : IsRow .u64 w a0 len0 cap0 z0) (w1 : IsRow .u16 w a1 len1 cap1 z1) :
    Calls Try.prog 8 #[.slice a0 len0 cap0, .slice a1 len1 cap1] w fun e w' => e = .returned (.bool true) ∧ Below w.heap.size w w' := by
  by_cases h0 : 60 < len0
  · exact long0 a0 len0 cap0 a1 len1 cap1 w h0
  by_cases h1 : 60 < len1
  · exact long1 a0 len0 cap0 a1 len1 cap1 w (by omega) h1
  obtain ⟨r0, e0, f0⟩ := reads_row w0
  obtain ⟨r1, e1, f1⟩ := reads_row w1
  have := core a0 cap0 (z0.take len0) a1 cap1 (z1.take len1) w (by omega) (by omega) r0 r1 (Lib.hid fun x hx => word_of_wf (f0 x hx)) (Lib.hid fun x hx => half_of_wf (f1 x hx))
  rw [e0, e1] at this
  exact this

/-! ### THE ROW's STEP: WRITTEN OUT: LEAVE IT -/
set_option maxRecDepth 100000 in
theorem lifted (os : Os) (started : os.Started) (H : Type) (enc : TypeId × Value → H) :
    ReturnsInHanded {} Try.checked os 8 .any (Rows.moneySumsSpec.pre6 enc Try.prog Try.f8 Rows.moneySumsRow.domain false) (Rows.moneySumsSpec.post enc Try.prog Try.f8 false true false false) := by
  refine returnsInHanded_of_change (C := Try.checked) own started (by kernel_rfl) Try.func8
    (ChangeSpec.witness6 (enc := enc) (C := Try.checked) false ⟨#[], #[.slice none 0 0, .slice none 0 0], []⟩ 8 (by kernel_rfl) (by kernel_rfl) (by kernel_rfl) (by kernel_rfl)) ?_
  intro W base args ds gs before hval0 hW hcnd _
  have hval : ∀ (j : Nat) t v, Try.f8.params[j]? = some t → args[j]? = some v → Value.okWide Try.prog W .any base t v := hval0
  have hW' := hW
  obtain ⟨p, q, hA0, hV, rfl, hfz, hnd⟩ := hW
  have hA : DataW.TrodAll enc Try.prog W 0 (fun _ => true) true Try.f8.params.toList args.toList ds p := hA0
  rw [Try.params8] at hA hval
  obtain ⟨v0, vs0, d0, ds0, p0, q0, hargs, rfl, rfl, h0, r0⟩ := trodAll_cons hA
  obtain ⟨v1, vs1, d1, ds1, p1, q1, rfl, rfl, rfl, h1, r1⟩ := trodAll_cons r0
  obtain ⟨rfl, rfl, rfl⟩ := trodAll_nil r1
  obtain rfl : args = #[v0, v1] := by cases args; simp_all
  obtain ⟨rfl, rfl⟩ := trodVars_none hV
  obtain ⟨a0, len0, cap0, rfl⟩ := okWide_slice Try.underlying37 (hval 0 37 v0 rfl rfl)
  have k0 := h0
  have lt0 : ∀ x ∈ p0, x.block < W.heap.size := by obtain ⟨m, hm⟩ := k0; exact DataW.trod_lt m _ _ _ hm
  obtain ⟨z0, w0⟩ : ∃ zs, IsRow .u64 W a0 len0 cap0 zs := by
    obtain ⟨fuel, hf⟩ := h0
    rcases open_ints Try.underlying37 Try.underlying22 (by kernel_rfl) hf with ⟨hcs, _⟩ | ⟨x, l, c, zs, hcs, _, hl, hm, hz, _, hcell, hwz⟩
    · simp [Value.cells] at hcs
      obtain ⟨rfl, rfl, rfl⟩ := hcs
      exact ⟨[], .inl ⟨rfl, rfl, rfl, rfl⟩⟩
    · simp [Value.cells] at hcs
      obtain ⟨rfl, rfl, rfl⟩ := hcs
      exact ⟨zs, .inr ⟨_, rfl, hl, hm, by simpa using hz, hcell, hwz⟩⟩
  obtain ⟨a1, len1, cap1, rfl⟩ := okWide_slice Try.underlying38 (hval 1 38 v1 rfl rfl)
  have k1 := h1
  have lt1 : ∀ x ∈ p1, x.block < W.heap.size := by obtain ⟨m, hm⟩ := k1; exact DataW.trod_lt m _ _ _ hm
  obtain ⟨z1, w1⟩ : ∃ zs, IsRow .u16 W a1 len1 cap1 zs := by
    obtain ⟨fuel, hf⟩ := h1
    rcases open_ints Try.underlying38 Try.underlying39 (by kernel_rfl) hf with ⟨hcs, _⟩ | ⟨x, l, c, zs, hcs, _, hl, hm, hz, _, hcell, hwz⟩
    · simp [Value.cells] at hcs
      obtain ⟨rfl, rfl, rfl⟩ := hcs
      exact ⟨[], .inl ⟨rfl, rfl, rfl, rfl⟩⟩
    · simp [Value.cells] at hcs
      obtain ⟨rfl, rfl, rfl⟩ := hcs
      exact ⟨zs, .inr ⟨_, rfl, hl, hm, by simpa using hz, hcell, hwz⟩⟩
  clear hA0 hval0
  refine (walk a0 len0 cap0 z0 a1 len1 cap1 z1 W w0 w1).mono fun e W' ⟨he, bel⟩ => ?_
  subst he
  exact ⟨_, rfl, _, _, _, [], _, [], hW', trodAll_mk1 (shut_bool Try.underlying4 _), (trodAll_cons_mk (Below.trod laidOut (by kernel_rfl) (of_decide_eq_true (by kernel_rfl)) k0 bel lt0) (trodAll_cons_mk (Below.trod laidOut (by kernel_rfl) (of_decide_eq_true (by kernel_rfl)) k1 bel lt1) trodAll_mk0)), rfl, bel.frame _, fun h => by cases h⟩

theorem over : Rows.moneySumsRow.holds Try.pinned (OpenSpec.ofChange Rows.moneySumsSpec) :=
  OpenClaim.holds_of_wide 8 Try.f8 rfl rfl rfl rfl rfl rfl rfl ⟨rfl, rfl, rfl, rfl, rfl⟩ rfl rfl rfl rfl rfl (by kernel_rfl) Try.func8 (by kernel_rfl)
    (of_decide_eq_true (by kernel_rfl)) (by unfold Func.isWrapper; first | (rw [if_pos (by decide +kernel)]; kernel_rfl) | (rw [if_neg (by decide +kernel)]; exact ⟨rfl, rfl⟩))
    (fun os started H enc _ => lifted os started H enc)

/-- THE STATEMENT -/
theorem proved : Rows.MoneySumsSaid := over
#print axioms proved
end Go.Proofs.Ytpabdkblmfeopaa.moneySums
