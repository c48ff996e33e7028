/-
  The contracts of near: at any choice a field with the same bytes or none; at 0 a valid field.
  Conditions: as typed.
-/
import Derived.Test.YtadngbpiepemjaaG8
namespace Go.Proofs.Ytadngbpiepemjaa
open Go.RowKit

/-- near returned a field whose bytes are those that came in, or none. -/
def NearR (val : Int) (b : Option Addr) (B : List Int) (d : Nat) (w : World) (e : Ending) (w' : World) : Prop :=
  ∃ (num' kind' val' : Int) (b' : Option Addr) (B' : List Int) (d' : Nat), e = .returned (.agg #[.int .i64 num', .int .i64 kind', .int .u64 val', .slice b' B'.length d']) ∧ (val' = val ∨ val' = 0) ∧
    ((b' = b ∧ B' = B ∧ d' = d) ∨ (b' = none ∧ B' = [] ∧ d' = 0)) ∧ Below w.heap.size w w'
theorem near_end {w : World} {o : Obj} {c0 c1 c2 c3 : Value} {R : Ending → World → Prop} {a : Act} (h4 : a.tmps[4]?.getD undef = .pointer (some ⟨w.heap.size + 1, 0, none⟩)) (hd : a.defers = [])
    (h : R (.returned (.agg #[c0, c1, c2, c3])) ((w.alloc o).alloc (.cells #[c0, c1, c2, c3] 25))) : bodyPost Try.prog Try.f9 R Exit.ret a ((w.alloc o).alloc (.cells #[c0, c1, c2, c3] 25)) :=
  bodyPost_ret (v := .agg #[c0, c1, c2, c3]) (by simp [results, Try.results9, h4, go_sem]) hd h
theorem two_new (w : World) (o o' : Obj) : Below w.heap.size w ((w.alloc o).alloc o') := ((Below.refl _ w).alloc (Nat.le_refl _) _).alloc (by simp) _

set_option maxHeartbeats 4000000 in
theorem near_any (num kind val how : Int) (b : Option Addr) (B : List Int) (d : Nat) (w : World) (hh : W8 how) :
    Calls Try.prog 9 #[.agg #[.int .i64 num, .int .i64 kind, .int .u64 val, .slice b B.length d], .int .u8 how] w (NearR val b B d w) := by
  obtain ⟨h0, h1⟩ := hh
  go_enter Try.func9, Try.ntmps9
  go_wp2
  all_goals first
    | exact near_end rfl rfl ⟨_, _, _, _, B, _, rfl, .inl rfl, .inl ⟨rfl, rfl, rfl⟩, two_new _ _ _⟩
    | exact near_end rfl rfl ⟨_, _, _, _, B, _, rfl, .inr rfl, .inl ⟨rfl, rfl, rfl⟩, two_new _ _ _⟩
    | exact near_end rfl rfl ⟨_, _, _, _, [], _, rfl, .inl rfl, .inr ⟨rfl, rfl, rfl⟩, two_new _ _ _⟩
    | exact near_end rfl rfl ⟨_, _, _, _, [], _, rfl, .inr rfl, .inr ⟨rfl, rfl, rfl⟩, two_new _ _ _⟩

/-- near returned, at the choice 0, a valid field with a small number. -/
def NearV (val : Int) (b : Option Addr) (B : List Int) (d : Nat) (w : World) (e : Ending) (w' : World) : Prop :=
  ∃ (num' kind' val' : Int) (b' : Option Addr) (B' : List Int) (d' : Nat), e = .returned (.agg #[.int .i64 num', .int .i64 kind', .int .u64 val', .slice b' B'.length d']) ∧ (val' = val ∨ val' = 0) ∧
    ((b' = b ∧ B' = B ∧ d' = d) ∨ (b' = none ∧ B' = [] ∧ d' = 0)) ∧ Vfi num' kind' val' B'.length ∧ num' ≤ 40 ∧ Below w.heap.size w w'
theorem near_num (num : Int) : 1 ≤ wrap64 (1 + wrap64 ((IntKind.u64.wrap num).tmod 40)) ∧ wrap64 (1 + wrap64 ((IntKind.u64.wrap num).tmod 40)) ≤ 40 := by
  have h : 0 ≤ IntKind.u64.wrap num := by rw [IntKind.wrap_u64]; omega
  rw [Int.tmod_eq_emod_of_nonneg h]
  unfold wrap64
  omega
theorem near_kind (kind : Int) : wrap64 (wrap64 ((IntKind.u64.wrap kind).tmod 2) * 2) = 0 ∨ wrap64 (wrap64 ((IntKind.u64.wrap kind).tmod 2) * 2) = 2 := by
  have h : 0 ≤ IntKind.u64.wrap kind := by rw [IntKind.wrap_u64]; omega
  rw [Int.tmod_eq_emod_of_nonneg h]
  unfold wrap64
  omega
theorem and0 (m : Int) (h : m = 1 ∨ m = 2 ∨ m = 4 ∨ m = 8) : bits .and .u8 0 m = 0 := by
  rcases h with rfl | rfl | rfl | rfl <;> rfl

set_option maxHeartbeats 4000000 in
theorem near_zero (num kind val : Int) (b : Option Addr) (B : List Int) (d : Nat) (w : World) :
    Calls Try.prog 9 #[.agg #[.int .i64 num, .int .i64 kind, .int .u64 val, .slice b B.length d], .int .u8 0] w (NearV val b B d w) := by
  have b1 := and0 1 (by omega)
  have b2 := and0 2 (by omega)
  have b4 := and0 4 (by omega)
  have b8 := and0 8 (by omega)
  have hn := near_num num
  obtain ⟨N, hN⟩ : ∃ N, wrap64 (1 + wrap64 ((IntKind.u64.wrap num).tmod 40)) = N := ⟨_, rfl⟩
  rw [hN] at hn
  rcases near_kind kind with hk | hk
  · have HV : Hid (Vfi N 0 val ([] : List Int).length) := ⟨hn.1, by omega, .inl ⟨rfl, rfl⟩⟩
    go_enter Try.func9, Try.ntmps9
    go_wp2
    all_goals exact near_end rfl rfl ⟨_, _, _, _, [], _, rfl, .inl rfl, .inr ⟨rfl, rfl, rfl⟩, HV.out, hn.2, two_new _ _ _⟩
  · have HV : Hid (Vfi N 2 0 B.length) := ⟨hn.1, by omega, .inr ⟨rfl, rfl⟩⟩
    go_enter Try.func9, Try.ntmps9
    go_wp2
    all_goals exact near_end rfl rfl ⟨_, _, _, _, B, _, rfl, .inr rfl, .inl ⟨rfl, rfl, rfl⟩, HV.out, hn.2, two_new _ _ _⟩
end Go.Proofs.Ytadngbpiepemjaa
