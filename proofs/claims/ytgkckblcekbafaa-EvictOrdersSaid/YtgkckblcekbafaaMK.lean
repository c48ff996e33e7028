/-
 mempoolmake's Name and Entry: contracts.
-/
import Derived.Test.YtgkckblcekbafaaRC
namespace Go.Proofs.Ytgkckblcekbafaa
attribute [local irreducible] wpList wpQuiet
open Go.RowKit
set_option maxRecDepth 100000
set_option linter.unusedSimpArgs false
set_option linter.unusedVariables false

theorem infoSt : (Try.prog.info? 9).map (fun i => (i.zero, i.size, i.bytes)) = some (some (.string ByteArray.empty), 1, 16) := by kernel_rfl
theorem idx_str (b off n c k : Nat) (hk : k < n) (V : World) (ρ : Operand → Value) (o : Oper) {x y : Operand} (ho : o.op = .indexAddr 68 x y) (hx : ρ x = .slice (some ⟨b, off, none⟩) n c) (hy : ρ y = .int .i64 k) : (execOp ρ o).run Try.prog V = .ok (.value (.pointer (some ⟨b, off + k, none⟩))) V := by
 have hs : (sizeOf (Try.prog.elem 68)).run Try.prog V = .ok 1 V := by kernel_rfl
 have hlm : (k : Int) < (n : Int) := by omega
 unfold execOp
 simp only [ho, hx, hy]
 go_simp
/-- Strings in a row that begins its block. -/
def strs (S : List ByteArray) : List Value := S.map Value.string
theorem strs_at {S : List ByteArray} {k : Nat} (h : k < S.length) : (strs S)[k]? = some (.string (S.getD k (⟨#[]⟩ : ByteArray))) := by
 unfold strs
 rw [List.getElem?_map, List.getElem?_eq_getElem h, List.getD_eq_getElem?_getD, List.getElem?_eq_getElem h]
 rfl
theorem load_str {w : World} {g t : Nat} {S : List ByteArray} (h : Bx w g (strs S).toArray t) {k : Nat} (hk : k < S.length) : (Instr.loadAt 9 (.pointer (some ⟨g, 0 + k, none⟩))).run Try.prog w = .ok (.string (S.getD k (⟨#[]⟩ : ByteArray))) w := by
 rw [Nat.zero_add]
 exact Bx.load h (i := k) (by rw [List.getElem?_toArray]; exact strs_at hk) (by kernel_rfl)
/-- The numbers: N were used. -/
def Nm (w : World) (g : Nat) (a : Option Addr) (c : Nat) (L : List Int) (N : Nat) : Prop := Bx w g #[.slice a L.length c, .int .i64 N] 56 ∧ Cs w a (icells L) ∧ (L ≠ [] → ∀ x, a = some x → x.block < g)
section
variable {w w' : World} {g c N q : Nat} {a : Option Addr} {L : List Int}
theorem Nm.lt (h : Nm w g a c L N) : g < w.heap.size := h.1.lt
theorem Nm.below (h : Nm w g a c L N) (hb : Below w.heap.size w w') : Nm w' g a c L N := ⟨h.1.below h.1.lt hb, h.2.1.below hb, h.2.2⟩
theorem cs_but0 {cs : List Value} (h : Cs w a cs) (hb : But q w w') (hn : cs ≠ [] → ∀ x, a = some x → x.block ≠ q) : Cs w' a cs := by
 cases cs with
 | nil => exact Cs.nil _ _
 | cons x r => exact h.but hb (hn (by simp))
theorem ic_ne (h : icells L ≠ []) : L ≠ [] := fun e => h (by rw [e]; rfl)
theorem Nm.but (h : Nm w g a c L N) (hb : But q w w') (hq : g < q) : Nm w' g a c L N := ⟨h.1.but hb (by omega), cs_but0 h.2.1 hb (fun hn x hx => by have := h.2.2 (ic_ne hn) x hx; omega), h.2.2⟩
theorem Nm.low (h : Nm w g a c L N) {B : Nat} (hb : Below B w w') (hg : g < B) : Nm w' g a c L N := ⟨h.1.below hg hb, cs_same h.2.1 fun k hk => hb.block k (by obtain ⟨hn, x, hx, rfl⟩ := hk; have := h.2.2 (ic_ne hn) x hx; omega), h.2.2⟩
theorem Nm.buts {B : Nat} {S : Nat → Prop} (h : Nm w g a c L N) (hb : ButS B S w w') (hg : g < B) : Nm w' g a c L N := h.low hb.1 hg
theorem nx (h : Nm w g a c L N) (hl : L.length ≤ 100000) (hN : N ≤ 100000) (n : Int) (hn : 0 < n) (hn2 : n ≤ 1000000) : Calls Try.prog 15 #[.pointer (some ⟨g, 0, none⟩), .int .i64 n] w fun e w' => (∃ v : Nat, e = .returned (.int .i64 v) ∧ (v : Int) < n ∧ (v : Int) = pl (L.getD N 0) n) ∧ Nm w' g a c L (N + 1) ∧ But g w w' :=
 (mk_next g L a c N n w h.1 h.2.1 hl hN hn hn2).mono fun e w' z => by
  have hp := pl_range (L.getD N 0) n hn
  obtain ⟨z1, z2, z3⟩ := z
  have hv : ((pl (L.getD N 0) n).toNat : Int) = pl (L.getD N 0) n := by omega
  exact ⟨⟨(pl (L.getD N 0) n).toNat, by rw [z1, hv], by omega, hv⟩, ⟨z3, cs_but0 h.2.1 z2 (fun hn x hx => by have := h.2.2 (ic_ne hn) x hx; omega), h.2.2⟩, z2⟩
end
def nms : List ByteArray := [⟨#[97, 110, 110]⟩, ⟨#[98, 111, 98]⟩, ⟨#[101, 118, 101]⟩, ⟨#[122, 111, 101]⟩, ⟨#[110, 101, 119]⟩, ⟨#[120, 45, 49]⟩]
theorem build_nms (V : World) : (Instr.buildSlice 68 6 #[(0, .string ⟨#[97, 110, 110]⟩), (1, .string ⟨#[98, 111, 98]⟩), (2, .string ⟨#[101, 118, 101]⟩), (3, .string ⟨#[122, 111, 101]⟩), (4, .string ⟨#[110, 101, 119]⟩), (5, .string ⟨#[120, 45, 49]⟩)]).run Try.prog V = .ok (.slice (some ⟨V.heap.size, 0, none⟩) 6 6) (V.alloc (.cells (strs nms).toArray 9)) := by
 obtain ⟨i0, hi, hz0, hz1, hz2⟩ := info_parts infoSt
 refine run_buildSlice V 68 9 6 _ (strs nms).toArray i0 _ Try.underlying68 hi hz0 (by rw [hz1]; omega) (by rw [hz1]; omega) ?_
 rw [hz1]
 kernel_rfl
set_option maxRecDepth 100000 in
set_option maxHeartbeats 8000000 in
theorem mk_name {w : World} {g c N : Nat} {a : Option Addr} {L : List Int} (h : Nm w g a c L N) (hl : L.length ≤ 100000) (hN : N ≤ 100000) : Calls Try.prog 29 #[.pointer (some ⟨g, 0, none⟩)] w fun e w' => ∃ s, e = .returned (.string s) ∧ s ∈ nms ∧ Nm w' g a c L (N + 1) ∧ But g w w' := by
 have hbd := build_nms w
 have hbx : Bx (w.alloc (.cells (strs nms).toArray 9)) w.heap.size (strs nms).toArray 9 := heap_alloc_last w _
 have hbw : Below w.heap.size w (w.alloc (.cells (strs nms).toArray 9)) := (Below.refl _ w).alloc (Nat.le_refl _) _
 have hgl := h.lt
 have hns := h.below hbw
 generalize w.alloc (.cells (strs nms).toArray 9) = V1 at *
 have HLE : Hid (nms.length = 6) := Lib.hid rfl
 have HMEM : Hid (∀ v, v < 6 → nms.getD v (⟨#[]⟩ : ByteArray) ∈ nms) := Lib.hid fun v hv => by
  rw [List.getD_eq_getElem?_getD, List.getElem?_eq_getElem (show v < nms.length from hv)]
  exact List.getElem_mem _
 generalize nms = S at *
 have HL := Lib.hid hl
 have HNN := Lib.hid hN
 obtain ⟨g1, hg1⟩ : ∃ g1, w.heap.size = g1 := ⟨_, rfl⟩
 have HB := Lib.hid (But.of_below hbw (Nat.le_of_lt hgl))
 have HG : Hid (g < g1) := Lib.hid (by omega)
 rw [hg1] at hbx hbd
 clear hbw hgl hg1 h hl hN
 go_enter Try.func29, Try.ntmps29
 go_upto_region 1 with fail
 apply wp_region_lit
 refine gw_build (by kernel_rfl) (some 3) rfl 68 6 #[(0, .const (.string ⟨#[97, 110, 110]⟩)), (1, .const (.string ⟨#[98, 111, 98]⟩)), (2, .const (.string ⟨#[101, 118, 101]⟩)), (3, .const (.string ⟨#[122, 111, 101]⟩)), (4, .const (.string ⟨#[110, 101, 119]⟩)), (5, .const (.string ⟨#[120, 45, 49]⟩))] rfl #[(0, .string ⟨#[97, 110, 110]⟩), (1, .string ⟨#[98, 111, 98]⟩), (2, .string ⟨#[101, 118, 101]⟩), (3, .string ⟨#[122, 111, 101]⟩), (4, .string ⟨#[110, 101, 119]⟩), (5, .string ⟨#[120, 45, 49]⟩)] (by kernel_rfl) (.slice (some ⟨g1, 0, none⟩) 6 6) _ hbd ?_
 simp only [pu]
 refine gz1 (.pointer (some ⟨g, 0, none⟩)) <|
  gze (fun v w' => ∃ q : Nat, v = .int .i64 q ∧ (q : Int) < 6 ∧ Nm w' g a c L (N + 1) ∧ But g V1 w') ((nx hns HL.out (by have := HNN.out; omega) 6 (by first | decide | omega) (by first | decide | omega)).mono fun e w' z => by obtain ⟨⟨q, h1, h2, -⟩, h3, h4⟩ := z; exact ⟨_, h1, q, rfl, h2, h3, h4⟩) (fun vv V2 hq => ?_)
 obtain ⟨v1, rfl, hv1, hns1, hbt1⟩ := hq
 have hq2 : v1 < 6 := by omega
 have hbx2 := hbx.but hbt1 (by have := HG.out; omega)
 simp only [pu]
 refine gzv (.pointer (some ⟨g1, 0 + v1, none⟩)) (idx_str g1 0 6 6 v1 hq2 _ _ _ rfl (by kernel_rfl) (by kernel_rfl)) <| gzl rfl ⟨g1, 0 + v1, none⟩ (.string (S.getD v1 ⟨#[]⟩)) (load_str hbx2 (k := v1) (by rw [HLE.out]; exact hq2)) <| gz1 (.string (S.getD v1 ⟨#[]⟩)) <| wn ?_
 simp only [pu]
 have HE := Lib.hid (HB.out.trans hbt1)
 have HNS := Lib.hid hns1
 clear hbt1 hns1 hbx hbx2 hbd hns
 go_wp2_with fail
 go_ret
 exact ⟨_, rfl, HMEM.out v1 hq2, HNS.out, HE.out⟩
end Go.Proofs.Ytgkckblcekbafaa
