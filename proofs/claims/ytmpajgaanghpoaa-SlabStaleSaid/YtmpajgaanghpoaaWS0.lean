/-
 Handles alive and dead; what SlabStale's walk keeps.
-/
import Derived.Test.YtmpajgaanghpoaaWA
namespace Go.Proofs.Ytmpajgaanghpoaa
open Go.RowKit
set_option maxRecDepth 100000
set_option linter.unusedSimpArgs false
set_option linter.unusedVariables false

/-- A handle whose entry is gone, for ever. -/
def Dead (m : Sm) (h : Int × Int) : Prop := ∃ i : Nat, h.1 = i ∧ i < m.P.length ∧ h.2 + 1 ≤ ((m.P.getD i zPn).us : Int) ∧ (h.2 + 1 = ((m.P.getD i zPn).us : Int) → (m.P.getD i zPn).full = false)
theorem val_of {m : Sm} {h : Int × Int} {i : Nat} (hi : h.1 = i) (hl : i < m.P.length) (hf : (m.P.getD i zPn).full = true) (hu : ((m.P.getD i zPn).us : Int) - 1 = h.2) : valS m h = true := by
 unfold valS
 simp only [Bool.and_eq_true, decide_eq_true_eq]
 rw [hi]
 simp only [Int.toNat_natCast]
 exact ⟨by omega, by omega, hf, hu⟩
theorem Dead.val {m : Sm} {h : Int × Int} (hd : Dead m h) : valS m h = false := by
 cases hv : valS m h with
 | false => rfl
 | true =>
  obtain ⟨i, hi, hil, hf, hu⟩ := val_iff hv
  obtain ⟨j, hj, hjl, h1, h2⟩ := hd
  obtain rfl : i = j := by omega
  have := h2 (by omega)
  rw [hf] at this
  cases this
section
variable {m : Sm} {u : Nat} {q r : Int × Int} {e : En}
theorem Dead.add (hd : Dead m q) : Dead (addS m e) q := by
 obtain ⟨i, hi, hil, h1, h2⟩ := hd
 rcases add_cases m with h0 | ⟨h0, ⟨F, j, hF⟩ | hF⟩
 ·rw [(add_full e h0).1]; exact ⟨i, hi, hil, h1, h2⟩
 ·rw [(add_free e h0 hF).1]
  by_cases hij : j = i
  ·subst hij
   refine ⟨j, hi, by rw [List.length_set]; exact hil, ?_, ?_⟩
   ·rw [getD_set_eq _ _ _ _ hil]; show q.2 + 1 ≤ (((m.P.getD j zPn).us + 1 : Nat) : Int); omega
   ·rw [getD_set_eq _ _ _ _ hil]; intro h3; have h3 : q.2 + 1 = (((m.P.getD j zPn).us + 1 : Nat) : Int) := h3; omega
  ·refine ⟨i, hi, by rw [List.length_set]; exact hil, ?_, ?_⟩
   ·rw [getD_set_ne _ _ _ _ _ hij]; exact h1
   ·rw [getD_set_ne _ _ _ _ _ hij]; exact h2
 ·rw [(add_new e h0 hF).1]
  refine ⟨i, hi, by rw [List.length_append]; omega, ?_, ?_⟩
  ·rw [getD_app_lt _ _ _ _ hil]; exact h1
  ·rw [getD_app_lt _ _ _ _ hil]; exact h2
theorem val_add (w : Wm m u) (hv : valS m q = true) : valS (addS m e) q = true := by
 obtain ⟨i, hi, hil, hf, hu⟩ := val_iff hv
 rcases add_cases m with h0 | ⟨h0, ⟨F, j, hF⟩ | hF⟩
 ·rw [(add_full e h0).1]; exact hv
 ·have hj := w.fr j (by rw [hF]; simp)
  have hij : j ≠ i := fun e => by rw [e, hf] at hj; exact absurd hj.2 (by decide)
  rw [(add_free e h0 hF).1]
  exact val_of hi (by rw [List.length_set]; exact hil) (by rw [getD_set_ne _ _ _ _ _ hij]; exact hf) (by rw [getD_set_ne _ _ _ _ _ hij]; exact hu)
 ·rw [(add_new e h0 hF).1]
  exact val_of hi (by rw [List.length_append]; omega) (by rw [getD_app_lt _ _ _ _ hil]; exact hf) (by rw [getD_app_lt _ _ _ _ hil]; exact hu)
theorem addH_new (w : Wm m u) (ho : addO m = true) : valS m (addH m) = false ∧ valS (addS m e) (addH m) = true := by
 rcases add_cases m with h0 | ⟨h0, ⟨F, j, hF⟩ | hF⟩
 ·rw [(add_full e h0).2.2] at ho; cases ho
 ·have hj := w.fr j (by rw [hF]; simp)
  obtain ⟨h1, h2, -⟩ := add_free e h0 hF
  rw [h2, h1]
  constructor
  ·cases hv : valS m ((j : Int), ((m.P.getD j zPn).us : Int)) with
   | false => rfl
   | true =>
    obtain ⟨i, hi, hil, hf, hu⟩ := val_iff hv
    obtain rfl : j = i := by have : (j : Int) = i := hi; omega
    rw [hf] at hj; exact absurd hj.2 (by decide)
  ·exact val_of (i := j) rfl (by rw [List.length_set]; exact hj.1) (by rw [getD_set_eq _ _ _ _ hj.1]) (by rw [getD_set_eq _ _ _ _ hj.1]; show (((m.P.getD j zPn).us + 1 : Nat) : Int) - 1 = ((m.P.getD j zPn).us : Int); omega)
 ·obtain ⟨h1, h2, -⟩ := add_new e h0 hF
  rw [h2, h1]
  constructor
  ·cases hv : valS m ((m.P.length : Int), 0) with
   | false => rfl
   | true =>
    obtain ⟨i, hi, hil, -, -⟩ := val_iff hv
    have : (m.P.length : Int) = i := hi
    omega
  ·exact val_of (i := m.P.length) rfl (by rw [List.length_append]; simp) (by rw [getD_app_last]) (by rw [getD_app_last]; rfl)
theorem Dead.rem (hd : Dead m q) (r : Int × Int) : Dead (remS m r) q := by
 obtain ⟨i, hi, hil, h1, h2⟩ := hd
 cases hv : valS m r with
 | false => rw [rem_no hv]; exact ⟨i, hi, hil, h1, h2⟩
 | true =>
  obtain ⟨j, hj, hjl, hf, hu⟩ := val_iff hv
  rw [rem_yes hv hj]
  by_cases hij : j = i
  ·subst hij
   exact ⟨j, hi, by rw [List.length_set]; exact hil, by rw [getD_set_eq _ _ _ _ hil]; exact h1, fun _ => by rw [getD_set_eq _ _ _ _ hil]⟩
  ·exact ⟨i, hi, by rw [List.length_set]; exact hil, by rw [getD_set_ne _ _ _ _ _ hij]; exact h1, by rw [getD_set_ne _ _ _ _ _ hij]; exact h2⟩
theorem dead_rem (hv : valS m q = true) : Dead (remS m q) q := by
 obtain ⟨j, hj, hjl, hf, hu⟩ := val_iff hv
 rw [rem_yes hv hj]
 exact ⟨j, hj, by rw [List.length_set]; exact hjl, by rw [getD_set_eq _ _ _ _ hjl]; show q.2 + 1 ≤ ((m.P.getD j zPn).us : Int); omega, fun _ => by rw [getD_set_eq _ _ _ _ hjl]⟩
theorem val_rem (hv : valS m q = true) (hr : valS m r = true) (hn : q ≠ r) : valS (remS m r) q = true := by
 obtain ⟨i, hi, hil, hf, hu⟩ := val_iff hv
 obtain ⟨j, hj, hjl, hf2, hu2⟩ := val_iff hr
 have hij : j ≠ i := fun e => hn (Prod.ext (by rw [hi, hj, e]) (by rw [← hu, ← hu2, e]))
 rw [rem_yes hr hj]
 exact val_of hi (by rw [List.length_set]; exact hil) (by rw [getD_set_ne _ _ _ _ _ hij]; exact hf) (by rw [getD_set_ne _ _ _ _ _ hij]; exact hu)
end
/-- The handles of entries that are there, and of entries that are gone. -/
structure PI (m : Sm) (u : Nat) (H D : List (Int × Int)) : Prop where
 wm : Wm m u
 lv : ∀ h, h ∈ H → valS m h = true
 nd : H.Nodup
 ln : H.length = cntL m.P
 dd : ∀ h, h ∈ D → Dead m h
theorem split_get (H : List (Int × Int)) (i : Nat) (hi : i < H.length) : H = H.take i ++ H.getD i (0, 0) :: H.drop (i + 1) := by
 have h1 : H.drop i = H.getD i (0, 0) :: H.drop (i + 1) := by rw [List.drop_eq_getElem_cons hi]; simp [List.getD_eq_getElem?_getD, hi]
 rw [← h1, List.take_append_drop]
section
variable {m : Sm} {u v : Nat} {H D : List (Int × Int)} {e : En} {i : Nat} {q : Int × Int}
theorem PI.new (n : Int) (u : Nat) : PI (newS n) u [] [] := ⟨Wm.new n u, (fun _ h => nomatch h), List.nodup_nil, rfl, (fun _ h => nomatch h)⟩
theorem PI.mono (h : PI m u H D) (hv : u ≤ v) : PI m v H D := { h with wm := h.wm.mono hv }
theorem PI.yes (h : PI m u H D) (he : EnB e) (ho : addO m = true) : PI (addS m e) (u + 1) (H ++ [addH m]) D := by
 obtain ⟨h1, h2⟩ := addH_new (e := e) h.wm ho
 refine ⟨h.wm.add he, fun x hx => ?_, ?_, ?_, fun x hx => (h.dd x hx).add⟩
 ·rcases List.mem_append.1 hx with h3 | h3
  ·exact val_add h.wm (h.lv x h3)
  ·obtain rfl : x = addH m := by simpa using h3
   exact h2
 ·rw [List.nodup_append]
  refine ⟨h.nd, by simp, fun a ha b hb e2 => ?_⟩
  obtain rfl : b = addH m := by simpa using hb
  subst e2
  rw [h.lv _ ha] at h1
  cases h1
 ·rw [(cnt_add h.wm e).1, ho, List.length_append, h.ln]; rfl
theorem PI.no (h : PI m u H D) (ho : addO m = false) : PI (addS m e) (u + 1) H D := by
 have h0 : m.mo ≤ cntL m.P := by
  unfold addO at ho
  have := of_decide_eq_false ho
  omega
 rw [(add_full e h0).1]
 exact h.mono (by omega)
theorem PI.at (h : PI m u H D) (hi : i < H.length) (hq : H.getD i (0, 0) = q) : valS m q = true := h.lv q (by rw [← hq, List.getD_eq_getElem?_getD, List.getElem?_eq_getElem hi]; exact List.getElem_mem hi)
theorem PI.rem (h : PI m u H D) (hi : i < H.length) (hq : H.getD i (0, 0) = q) : PI (remS m q) u (H.take i ++ H.drop (i + 1)) (D ++ [q]) := by
 have hv := h.at hi hq
 have hs := split_get H i hi
 rw [hq] at hs
 have hnd := h.nd
 rw [hs, List.nodup_append] at hnd
 obtain ⟨n1, n2, n3⟩ := hnd
 rw [List.nodup_cons] at n2
 have hln := h.ln
 have hcr := cnt_rem m q
 rw [hv] at hcr
 refine ⟨h.wm.rem q, fun x hx => ?_, ?_, ?_, fun x hx => ?_⟩
 ·have hx2 : x ∈ H ∧ x ≠ q := by
   rcases List.mem_append.1 hx with h3 | h3
   ·exact ⟨List.mem_of_mem_take h3, fun e => n3 x h3 q (by simp) e⟩
   ·exact ⟨List.mem_of_mem_drop h3, fun e => n2.1 (e ▸ h3)⟩
  exact val_rem (h.lv x hx2.1) hv hx2.2
 ·rw [List.nodup_append]
  exact ⟨n1, n2.2, fun a ha b hb => n3 a ha b (List.mem_cons_of_mem _ hb)⟩
 ·have h4 : (H.take i ++ H.drop (i + 1)).length + 1 = H.length := by
   rw [List.length_append, List.length_take, List.length_drop]; omega
  have h5 : cntL (remS m q).P + 1 = cntL m.P := hcr.1
  omega
 ·rcases List.mem_append.1 hx with h3 | h3
  ·exact (h.dd x h3).rem q
  ·obtain rfl : x = q := by simpa using h3
   exact dead_rem hv
end
theorem hcs_take : ∀ (k : Nat) (L : List (Int × Int)), hcs (L.take k) = (hcs L).take (k * 2)
 | 0, L => by simp [hcs]
 | k + 1, [] => by simp [hcs]
 | k + 1, x :: r => by
  have ih := hcs_take k r
  show Value.int .i64 x.1 :: Value.int .i64 x.2 :: hcs (r.take k) = (Value.int .i64 x.1 :: Value.int .i64 x.2 :: hcs r).take ((k + 1) * 2)
  rw [ih, show (k + 1) * 2 = k * 2 + 1 + 1 by omega]
  rfl
theorem hcs_drop : ∀ (k : Nat) (L : List (Int × Int)), hcs (L.drop k) = (hcs L).drop (k * 2)
 | 0, L => by simp [hcs]
 | k + 1, [] => by simp [hcs]
 | k + 1, x :: r => by
  have ih := hcs_drop k r
  show hcs (r.drop k) = (Value.int .i64 x.1 :: Value.int .i64 x.2 :: hcs r).drop ((k + 1) * 2)
  rw [ih, show (k + 1) * 2 = k * 2 + 1 + 1 by omega]
  rfl
theorem cut_hn_to (a : Option Addr) (n c k : Nat) (w : World) (h : k ≤ c) : (Instr.slice 36 (.slice a n c) none (some (.int .i64 (k : Int))) none).run Try.prog w = .ok (.slice a k c) w := cut_to (s := 2) (by kernel_rfl) (fun w => by kernel_rfl) a n c k w h
theorem cut_hn_from (a : Option Addr) (n c k : Nat) (w : World) (h : k ≤ n) : (Instr.slice 36 (.slice a n c) (some (.int .i64 (k : Int))) none none).run Try.prog w = .ok (.slice (fromS 2 a c k) (n - k) (c - k)) w := cut_from (s := 2) (by kernel_rfl) (fun w => by kernel_rfl) a n c k w h
theorem row_same {w w' : World} {B e s n : Nat} {v : Value} {xs : List Value} (h : w.ownsRow B e s v n xs) (hs : ∀ k, v.ownBlock = some k → w'.heap[k]? = w.heap[k]?) : w'.ownsRow B e s v n xs := by
 refine ⟨h.1, ?_⟩
 rcases h.2 with h0 | ⟨g, cap, cur, e0, hb, hgg, rest⟩
 ·exact .inl h0
 ·refine .inr ⟨g, cap, cur, e0, hb, ?_, rest⟩
  rw [← hgg]
  exact hs g (by rw [e0]; rfl)
theorem own_gr {w w' : World} {B e s n : Nat} {v : Value} {xs : List Value} {r : Option Nat} (h : w.ownsRow B e s v n xs) (hg : w.grownBy w' r) (hn : ∀ k, r = some k → v.ownBlock ≠ some k) : w'.ownsRow B e s v n xs :=
 own_grown h hg (by
  cases r with
  | none => exact .inl rfl
  | some k => exact .inr fun e => hn k rfl e.symm)
/-- What SlabStale's walk keeps. -/
structure TS (w : World) (gn : Nat) (a : Option Addr) (c : Nat) (L : List Int) (B g0 : Nat) (S : Nat → Prop) (m : Sm) (lv dv : Value) (H D : List (Int × Int)) (N : Nat) (V : World) : Prop where
 st : Stt B w g0 S m V
 nm : Nm V gn a c L N
 nB : gn < B
 wn : w.heap.size ≤ gn
 rl : RowH V B lv H
 rd : RowH V B dv D
 nl : ∀ k, lv.ownBlock = some k → ¬ S k
 nd : ∀ k, dv.ownBlock = some k → ¬ S k
 ne : ∀ k, lv.ownBlock = some k → dv.ownBlock ≠ some k
section
variable {w V V2 : World} {gn c B g0 N N2 : Nat} {a : Option Addr} {L : List Int} {S : Nat → Prop} {m m2 : Sm} {lv dv v : Value} {H D H2 D2 : List (Int × Int)}
theorem TS.below (h : TS w gn a c L B g0 S m lv dv H D N V) (hb : Below V.heap.size V V2) : TS w gn a c L B g0 S m lv dv H D N V2 :=
 {h with st := h.st.below hb, nm := h.nm.below hb, rl := h.rl.below hb, rd := h.rd.below hb }
theorem TS.num (h : TS w gn a c L B g0 S m lv dv H D N V) (hn : Nm V2 gn a c L N2) (hb : But gn V V2) : TS w gn a c L B g0 S m lv dv H D N2 V2 :=
 have h1 := h.nB
 {h with st := h.st.but hb (fun hs => by have := h.st.so _ hs; omega) h.wn, nm := hn, rl := row_same h.rl fun k hk => hb.2 k (h.rl.lt k hk).2 (by have := (h.rl.lt k hk).1; omega), rd := row_same h.rd fun k hk => hb.2 k (h.rd.lt k hk).2 (by have := (h.rd.lt k hk).1; omega) }
theorem TS.upd (h : TS w gn a c L B g0 S m lv dv H D N V) (hu : UpdS g0 B S m2 V V2) : ∃ S2, TS w gn a c L B g0 S2 m2 lv dv H D N V2 := by
 obtain ⟨S2, h1, h2, h3⟩ := h.st.upd hu
 exact ⟨S2, { h with st := h1, nm := h.nm.buts h3 h.nB, rl := row_same h.rl fun k hk => h3.2 k (h.rl.lt k hk).2 (h.nl k hk), rd := row_same h.rd fun k hk => h3.2 k (h.rd.lt k hk).2 (h.nd k hk), nl := fun k hk => h2 k (h.rl.lt k hk).2 (h.nl k hk), nd := fun k hk => h2 k (h.rd.lt k hk).2 (h.nd k hk) }⟩
theorem TS.top (h : TS w gn a c L B g0 S m lv dv H D N V) : ¬ S V.heap.size := fun hs => Nat.lt_irrefl _ (h.st.rep.inn _ hs)
theorem Stt.grown (h : Stt B w g0 S m V) (hb : Below B V V2) {r : Option Nat} (hg : V.grownBy V2 r) (hn : ∀ k, r = some k → ¬ S k) : Stt B w g0 S m V2 :=
 ⟨h.rep.same fun k hk => hg.block k (h.rep.inn k hk) fun e => hn k e.symm hk, h.so, Nat.le_trans h.bz hb.size, h.bel.trans (hb.mono h.wB), h.wB⟩
theorem TS.live (h : TS w gn a c L B g0 S m lv dv H D N V) (hr : RowH V2 B v H2) (hb : Below B V V2) (hg : V.grownBy V2 lv.ownBlock) (hat : v.ownBlock = lv.ownBlock ∨ v.ownBlock = some V.heap.size) : TS w gn a c L B g0 S m v dv H2 D N V2 :=
 have h1 : ∀ k, v.ownBlock = some k → ¬ S k := fun k hk => by
  rcases hat with e | e
  ·exact h.nl k (e ▸ hk)
  ·rw [e] at hk; cases hk; exact h.top
 have h2 : ∀ k, v.ownBlock = some k → dv.ownBlock ≠ some k := fun k hk => by
  rcases hat with e | e
  ·exact h.ne k (e ▸ hk)
  ·rw [e] at hk; cases hk; exact fun e2 => Nat.lt_irrefl _ (h.rd.lt _ e2).2
 {h with st := h.st.grown hb hg h.nl, nm := h.nm.low hb h.nB, rl := hr, rd := own_gr h.rd hg h.ne, nl := h1, ne := h2 }
theorem TS.dead (h : TS w gn a c L B g0 S m lv dv H D N V) (hr : RowH V2 B v D2) (hb : Below B V V2) (hg : V.grownBy V2 dv.ownBlock) (hat : v.ownBlock = dv.ownBlock ∨ v.ownBlock = some V.heap.size) : TS w gn a c L B g0 S m lv v H D2 N V2 :=
 have h1 : ∀ k, v.ownBlock = some k → ¬ S k := fun k hk => by
  rcases hat with e | e
  ·exact h.nd k (e ▸ hk)
  ·rw [e] at hk; cases hk; exact h.top
 have h2 : ∀ k, lv.ownBlock = some k → v.ownBlock ≠ some k := fun k hk => by
  rcases hat with e | e
  ·rw [e]; exact h.ne k hk
  ·rw [e]; exact fun e2 => by cases e2; exact Nat.lt_irrefl _ (h.rl.lt _ hk).2
 {h with st := h.st.grown hb hg h.nd, nm := h.nm.low hb h.nB, rd := hr, rl := own_gr h.rl hg (fun k hk e => h.ne k e hk), nd := h1, ne := h2 }
/-- The live handles in a row of a later time. -/
theorem TS.fresh (h : TS w gn a c L B g0 S m lv dv H D N V) (hb : Below V.heap.size V V2) (hr : RowH V2 V.heap.size v H2) : TS w gn a c L B g0 S m v dv H2 D N V2 :=
 have h1 : ∀ k, v.ownBlock = some k → ¬ S k := fun k hk hs => by
  have h1 := (hr.lt k hk).1
  have h2 := h.st.rep.inn k hs
  omega
 have h2 : ∀ k, v.ownBlock = some k → dv.ownBlock ≠ some k := fun k hk e => by
  have h1 := (hr.lt k hk).1
  have h2 := (h.rd.lt k e).2
  omega
 {h.below hb with rl := own_base hr h.st.bz, nl := h1, ne := h2 }
end
/-- A row of handles is copied without one of them. -/
structure KS (W : World) (F G : List (Int × Int)) (b0 b1 b3 b4 b5 b8 b9 b10 : Bool) (x0 x4 x9 : Value) (V : World) : Prop where
 bel : Below W.heap.size W V
 r0 : b0 = true → b4 = false → RowH V W.heap.size x0 []
 r4 : b4 = true → b9 = false → RowH V W.heap.size x4 F
 r9 : b9 = true → RowH V W.heap.size x9 (F ++ G)
 o3 : b3 = true → b1 = true
 o8 : b8 = true → b5 = true
 o4 : b4 = true → b0 = true
 o43 : b4 = true → b3 = true
 o9 : b9 = true → b4 = true
 o98 : b9 = true → b8 = true
 o10 : b10 = true → b9 = true
section
variable {W V V2 : World} {F G : List (Int × Int)} {b0 b1 b3 b4 b5 b8 b9 b10 : Bool} {x0 x4 x9 v : Value}
theorem KS.start : KS W F G false false false false false false false false x0 x4 x9 { W with drawn := W.drawn + 1 } := ⟨(Below.refl _ W).drew, (fun e => nomatch e), (fun e => nomatch e), (fun e => nomatch e), (fun e => nomatch e), (fun e => nomatch e), (fun e => nomatch e), (fun e => nomatch e), (fun e => nomatch e), (fun e => nomatch e), (fun e => nomatch e)⟩
theorem KS.n9 (h : KS W F G b0 b1 b3 b4 b5 b8 false b10 x0 x4 x9 V) : b10 = false := ffw h.o10 rfl
theorem KS.n4 (h : KS W F G b0 b1 b3 false b5 b8 b9 b10 x0 x4 x9 V) : b9 = false ∧ b10 = false := by
 obtain rfl := ffw h.o9 rfl
 exact ⟨rfl, h.n9⟩
theorem KS.n8 (h : KS W F G b0 b1 b3 b4 b5 false b9 b10 x0 x4 x9 V) : b9 = false ∧ b10 = false := by
 obtain rfl := ffw h.o98 rfl
 exact ⟨rfl, h.n9⟩
theorem KS.n0 (h : KS W F G false b1 b3 b4 b5 b8 b9 b10 x0 x4 x9 V) : b4 = false ∧ b9 = false ∧ b10 = false := by
 obtain rfl := ffw h.o4 rfl
 exact ⟨rfl, h.n4⟩
theorem KS.n3 (h : KS W F G b0 b1 false b4 b5 b8 b9 b10 x0 x4 x9 V) : b4 = false ∧ b9 = false ∧ b10 = false := by
 obtain rfl := ffw h.o43 rfl
 exact ⟨rfl, h.n4⟩
theorem KS.n1 (h : KS W F G b0 false b3 b4 b5 b8 b9 b10 x0 x4 x9 V) : b3 = false ∧ b4 = false ∧ b9 = false ∧ b10 = false := by
 obtain rfl := ffw h.o3 rfl
 exact ⟨rfl, h.n3⟩
theorem KS.n5 (h : KS W F G b0 b1 b3 b4 false b8 b9 b10 x0 x4 x9 V) : b8 = false ∧ b9 = false ∧ b10 = false := by
 obtain rfl := ffw h.o8 rfl
 exact ⟨rfl, h.n8⟩
theorem KS.s1 (h : KS W F G b0 false false false b5 b8 false false x0 x4 x9 V) : KS W F G b0 true false false b5 b8 false false x0 x4 x9 V := { h with o3 := (fun e => nomatch e) }
theorem KS.s5 (h : KS W F G b0 b1 b3 b4 false false false false x0 x4 x9 V) : KS W F G b0 b1 b3 b4 true false false false x0 x4 x9 V := { h with o8 := (fun e => nomatch e) }
theorem KS.s3 (h : KS W F G b0 true false false b5 b8 false false x0 x4 x9 V) : KS W F G b0 true true false b5 b8 false false x0 x4 x9 V := { h with o3 := fun _ => rfl, o43 := (fun e => nomatch e) }
theorem KS.s8 (h : KS W F G b0 b1 b3 b4 true false false false x0 x4 x9 V) : KS W F G b0 b1 b3 b4 true true false false x0 x4 x9 V := { h with o8 := fun _ => rfl, o98 := (fun e => nomatch e) }
theorem KS.s10 (h : KS W F G b0 b1 b3 b4 b5 b8 true false x0 x4 x9 V) : KS W F G b0 b1 b3 b4 b5 b8 true true x0 x4 x9 V := { h with o10 := fun _ => rfl }
theorem KS.nil (h : KS W F G false b1 b3 false b5 b8 false false x0 x4 x9 V) : KS W F G true b1 b3 false b5 b8 false false (.slice (some ⟨V.heap.size, 0, none⟩) 0 0) x4 x9 (V.alloc (.cells #[] 33)) :=
 have hb : Below V.heap.size V (V.alloc (.cells #[] 33)) := (Below.refl _ V).alloc (Nat.le_refl _) _
 {h with bel := h.bel.trans (hb.mono h.bel.size), r0 := fun _ _ => own_base (own_nil V 33 2) h.bel.size, r4 := (fun e => nomatch e), r9 := (fun e => nomatch e), o4 := (fun e => nomatch e) }
theorem KS.s4 (h : KS W F G true b1 true false b5 b8 false false x0 x4 x9 V) (hr : RowH V2 W.heap.size v F) (hb : Below W.heap.size V V2) : KS W F G true b1 true true b5 b8 false false x0 v x9 V2 :=
 {h with bel := h.bel.trans hb, r0 := (fun _ e => nomatch e), r4 := fun _ _ => hr, r9 := (fun e => nomatch e), o4 := fun _ => rfl, o43 := fun _ => rfl, o9 := (fun e => nomatch e) }
theorem KS.s9 (h : KS W F G b0 b1 b3 true b5 true false false x0 x4 x9 V) (hr : RowH V2 W.heap.size v (F ++ G)) (hb : Below W.heap.size V V2) : KS W F G b0 b1 b3 true b5 true true false x0 x4 v V2 :=
 {h with bel := h.bel.trans hb, r0 := (fun _ e => nomatch e), r4 := (fun _ e => nomatch e), r9 := fun _ => hr, o9 := fun _ => rfl, o98 := fun _ => rfl, o10 := (fun e => nomatch e) }
end
def eO (v : Int) : En := ⟨fun _ => 0, [], ⟨#[]⟩, 0, 0, 0, 0, 0, v, []⟩
theorem eO_i (v : Int) (w : World) : EnI w (eO v) zAd := ⟨.inl ⟨rfl, rfl, rfl⟩, Cs.nil _ _, Nat.le_refl 0, Nat.le_refl 0⟩
theorem eO_e {v : Int} {k : Nat} (h : EB (eO v) zAd k) : False := h.elim (fun h => h.1 rfl) fun h => h.1 rfl
theorem eO_b (v : Int) : EnB (eO v) := ⟨by show 0 ≤ 60000; omega, by show 0 ≤ 60000; omega⟩
end Go.Proofs.Ytmpajgaanghpoaa
