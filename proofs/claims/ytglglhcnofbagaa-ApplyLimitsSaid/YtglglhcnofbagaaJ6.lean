/-
  Transactions as fields, and read back, as plain data: the program's way and the reference's. No program. The program's inName and IsName: contracts.
-/
import Derived.Test.YtglglhcnofbagaaJ5
namespace Go.Proofs.Ytglglhcnofbagaa
open Go.RowKit
set_option linter.unusedSimpArgs false
set_option linter.unusedVariables false

def mtS : ByteArray := ⟨#[]⟩
theorem mt_of {s : ByteArray} (h : s.size = 0) : s = mtS := ByteArray.ext (Array.eq_empty_of_size_eq_zero h)
def tF (k : Int) (s : ByteArray) : List Fld := if s.size = 0 then [] else [⟨k, 2, 0, nums s⟩]
def nF (k v : Int) : List Fld := if v = 0 then [] else [⟨k, 0, v, []⟩]
def trF (x : Tf) : List Fld := tF 1 x.1 ++ nF 2 x.2
def tfF (x : Tf) : Fld := ⟨6, 2, 0, msg (trF x)⟩
def txF (t : Txd) : List Fld := tF 1 t.snd ++ (nF 2 t.sq ++ (nF 3 t.gas ++ (nF 4 t.fee ++ (tF 5 t.memo ++ t.tr.map tfF))))
def form (t : Txd) : List Int := msg (txF t)
theorem tF_no {k : Int} {s : ByteArray} (h : s.size = 0) : tF k s = [] := if_pos h
theorem tF_yes {k : Int} {s : ByteArray} (h : s.size ≠ 0) : tF k s = [⟨k, 2, 0, nums s⟩] := if_neg h
theorem nF_no (k : Int) : nF k 0 = [] := rfl
theorem nF_yes {k v : Int} (h : v ≠ 0) : nF k v = [⟨k, 0, v, []⟩] := if_neg h
theorem msg_nil : msg [] = [] := rfl
theorem msg_cons (f : Fld) (r : List Fld) : msg (f :: r) = encF f ++ msg r := rfl
theorem msg_tF (k : Int) (s : ByteArray) : (msg (tF k s)).length ≤ 20 + s.size ∧ s.size ≤ (msg (tF k s)).length := by
 by_cases h : s.size = 0
 ·rw [tF_no h, msg_nil]
  exact ⟨by simp, by rw [h]; simp⟩
 ·rw [tF_yes h, msg_cons, msg_nil, List.append_nil]
  have a := encF_le ⟨k, 2, 0, nums s⟩
  have b := encI_len_ge k 2 0 (nums s)
  rw [nums_len] at b
  have c : (⟨k, 2, 0, nums s⟩ : Fld).bytes.length = s.size := nums_len s
  exact ⟨by omega, b⟩
theorem msg_nF (k v : Int) : (msg (nF k v)).length ≤ 20 := by
 by_cases h : v = 0
 ·subst h; rw [nF_no, msg_nil]; simp
 ·rw [nF_yes h, msg_cons, msg_nil, List.append_nil]
  have a := encF_le ⟨k, 0, v, []⟩
  simpa using a
theorem msg_trF (x : Tf) : (msg (trF x)).length ≤ 40 + x.1.size ∧ x.1.size ≤ (msg (trF x)).length := by
 unfold trF
 rw [msg_app, List.length_append]
 have a := msg_tF 1 x.1
 have b := msg_nF 2 x.2
 omega
theorem enc_tfF (x : Tf) : (encF (tfF x)).length ≤ 60 + x.1.size ∧ 60 + x.1.size ≤ 61 * (encF (tfF x)).length := by
 have a := encF_le (tfF x)
 have b := encI_len_ge 6 2 0 (msg (trF x))
 have b2 : (msg (trF x)).length ≤ (encF (tfF x)).length := b
 have c := msg_trF x
 have d := encF_pos (tfF x)
 have e : (tfF x).bytes.length = (msg (trF x)).length := rfl
 omega
def trW : List Tf → Nat
 | [] => 0
 | x :: r => 60 + x.1.size + trW r
def wtX (t : Txd) : Nat := 100 + t.snd.size + t.memo.size + trW t.tr
theorem trW_app : ∀ (A B : List Tf), trW (A ++ B) = trW A + trW B
 | [], B => by simp [trW]
 | x :: r, B => by rw [List.cons_append, trW, trW, trW_app r B]; omega
theorem trW_len : ∀ A : List Tf, 60 * A.length ≤ trW A
 | [] => by simp [trW]
 | x :: r => by have := trW_len r; rw [trW, List.length_cons]; omega
theorem trW_mem {A : List Tf} {x : Tf} (h : x ∈ A) : 60 + x.1.size ≤ trW A := by
 induction A with
 | nil => cases h
 | cons y r ih =>
  rw [trW]
  rcases List.mem_cons.1 h with rfl | h
  ·omega
  ·have := ih h; omega
theorem msg_map : ∀ A : List Tf, (msg (A.map tfF)).length ≤ trW A ∧ trW A ≤ 61 * (msg (A.map tfF)).length
 | [] => by simp [msg, trW]
 | x :: r => by
  have a := msg_map r
  have b := enc_tfF x
  rw [List.map_cons, msg_cons, List.length_append, trW]
  omega
theorem form_len (t : Txd) : (form t).length ≤ wtX t ∧ wtX t ≤ 100 + 61 * (form t).length := by
 unfold form txF wtX
 rw [msg_app, msg_app, msg_app, msg_app, msg_app]
 simp only [List.length_append]
 have a := msg_tF 1 t.snd
 have b := msg_nF 2 t.sq
 have c := msg_nF 3 t.gas
 have d := msg_nF 4 t.fee
 have e := msg_tF 5 t.memo
 have f := msg_map t.tr
 omega
/-- The numbers are words, and it is not too long. -/
structure OkX (t : Txd) : Prop where
 sq : W64 t.sq
 gas : W64 t.gas
 fee : W64 t.fee
 am : ∀ x, x ∈ t.tr → W64 x.2
 wt : wtX t ≤ 800000
theorem w64_0 : W64 0 := ⟨by decide, by decide⟩
theorem vf_t {k : Int} {s : ByteArray} (h1 : 1 ≤ k) (h2 : k ≤ 536870911) (hs : s.size ≤ 1000000) : ∀ f, f ∈ tF k s → Vf f ∧ f.num = k := fun f hf => by
 by_cases h : s.size = 0
 ·rw [tF_no h] at hf; cases hf
 ·rw [tF_yes h, List.mem_singleton] at hf
  subst hf
  exact ⟨⟨⟨h1, h2, .inr ⟨rfl, rfl⟩⟩, w64_0, fun x hx => nums_byte s x hx, by rw [nums_len]; exact hs⟩, rfl⟩
theorem vf_n {k v : Int} (h1 : 1 ≤ k) (h2 : k ≤ 536870911) (hv : W64 v) : ∀ f, f ∈ nF k v → Vf f ∧ f.num = k := fun f hf => by
 by_cases h : v = 0
 ·subst h; rw [nF_no] at hf; cases hf
 ·rw [nF_yes h, List.mem_singleton] at hf
  subst hf
  exact ⟨⟨⟨h1, h2, .inl ⟨rfl, rfl⟩⟩, hv, fun x (hx : x ∈ ([] : List Int)) => (by cases hx), Nat.zero_le _⟩, rfl⟩
theorem msg_bytes {P : List Fld} (h : ∀ f, f ∈ P → Vf f) : ∀ x, x ∈ msg P → 0 ≤ x ∧ x ≤ 255 := fun x hx => by
 obtain ⟨f, hf, hx⟩ := List.mem_flatMap.1 hx
 exact encF_bytes f (h f hf) x hx
theorem vf_tr {x : Tf} (hs : x.1.size ≤ 900000) (hv : W64 x.2) : ∀ f, f ∈ trF x → Vf f := fun f hf => by
 rcases List.mem_append.1 hf with hf | hf
 ·exact (vf_t (by decide) (by decide) (by omega) f hf).1
 ·exact (vf_n (by decide) (by decide) hv f hf).1
theorem vf_tf {x : Tf} (hs : x.1.size ≤ 900000) (hv : W64 x.2) : Vf (tfF x) := ⟨⟨by show (1 : Int) ≤ 6; decide, by show (6 : Int) ≤ 536870911; decide, .inr ⟨rfl, rfl⟩⟩, w64_0, msg_bytes (vf_tr hs hv), by have := msg_trF x; show (msg (trF x)).length ≤ 1000000; omega⟩
theorem OkX.vf {t : Txd} (h : OkX t) : ∀ f, f ∈ txF t → Vf f := fun f hf => by
 have hw := h.wt
 unfold wtX at hw
 unfold txF at hf
 simp only [List.mem_append] at hf
 rcases hf with hf | hf | hf | hf | hf | hf
 ·exact (vf_t (by decide) (by decide) (by omega) f hf).1
 ·exact (vf_n (by decide) (by decide) h.sq f hf).1
 ·exact (vf_n (by decide) (by decide) h.gas f hf).1
 ·exact (vf_n (by decide) (by decide) h.fee f hf).1
 ·exact (vf_t (by decide) (by decide) (by omega) f hf).1
 ·obtain ⟨x, hx, rfl⟩ := List.mem_map.1 hf
  have := trW_mem hx
  exact vf_tf (by omega) (h.am x hx)
theorem OkX.tr {t : Txd} (h : OkX t) {x : Tf} (hx : x ∈ t.tr) : x.1.size ≤ 800000 ∧ W64 x.2 := by
 have hw := h.wt
 unfold wtX at hw
 have := trW_mem hx
 exact ⟨by omega, h.am x hx⟩
/-- A message has one list of fields. -/
theorem msg_inj : ∀ (P Q : List Fld), (∀ f, f ∈ P → Vf f) → (∀ f, f ∈ Q → Vf f) → msg P = msg Q → P = Q
 | [], [], _, _, _ => rfl
 | [], g :: Q, _, _, h => by
  have a := congrArg List.length h
  rw [msg_cons, List.length_append, msg_nil, List.length_nil] at a
  have := encF_pos g
  omega
 | f :: P, [], _, _, h => by
  have a := congrArg List.length h
  rw [msg_cons, List.length_append, msg_nil, List.length_nil] at a
  have := encF_pos f
  omega
 | f :: P, g :: Q, hP, hQ, h => by
  rw [msg_cons, msg_cons] at h
  have a := one_enc f (hP f (by simp)) (msg P)
  have b := one_enc g (hQ g (by simp)) (msg Q)
  rw [h, b] at a
  simp only [Prod.mk.injEq] at a
  have e : f = g := a.1.symm
  subst e
  rw [msg_inj P Q (fun x hx => hP x (by simp [hx])) (fun x hx => hQ x (by simp [hx])) (List.append_cancel_left h)]
theorem flds_msg {P : List Fld} (h : ∀ f, f ∈ P → Vf f) (hn : P.length ≤ 1024) : flds (msg P) = (P, 0, 0) := by
 have := flds_enc P ((msg P).length + 1) [] 0 h (by simpa using hn) (by show (msg P).length < _; omega)
 simpa [flds, msg] using this
theorem flds_ok {L : List Int} (hb : ∀ x, x ∈ L → 0 ≤ x ∧ x ≤ 255) (hl : L.length ≤ 1000000) : ((flds L).1 = [] ∧ (flds L).2.2 ≠ 0) ∨ (∃ P, flds L = (P, 0, 0) ∧ msg P = L ∧ ∀ f, f ∈ P → Vf f) := by
 rcases flds_inv (L.length + 1) [] 0 L hb hl (by omega) with ⟨e, j, h, he, -⟩ | ⟨G, h, hm, hv⟩
 ·left
  unfold flds
  rw [h]
  exact ⟨rfl, he⟩
 ·right
  exact ⟨G, by unfold flds; rw [h]; simp, hm, hv⟩
theorem msg_ge (P : List Fld) : 2 * P.length ≤ (msg P).length := by
 induction P with
 | nil => simp [msg]
 | cons f r ih =>
  have := encF_pos f
  rw [msg_cons, List.length_append, List.length_cons]
  omega

/-! The program's way: the fields in their order. -/
def takT (k : Int) : List Fld → ByteArray × List Fld
 | [] => (mtS, [])
 | f :: r => if f.num = k ∧ f.kind = 2 ∧ f.bytes.length ≠ 0 then (strOfNums f.bytes, r) else (mtS, f :: r)
def takN (k : Int) : List Fld → Int × List Fld
 | [] => (0, [])
 | f :: r => if f.num = k ∧ f.kind = 0 ∧ f.val ≠ 0 then (f.val, r) else (0, f :: r)
def rdTf (f : Fld) : Option Tf :=
 if f.kind = 2 ∧ f.num = 6 ∧ (flds f.bytes).2.2 = 0 ∧ (takN 2 (takT 1 (flds f.bytes).1).2).2.length = 0 then some ((takT 1 (flds f.bytes).1).1, (takN 2 (takT 1 (flds f.bytes).1).2).1) else none
def rdTs : List Fld → Option (List Tf)
 | [] => some []
 | f :: r => match rdTf f with
  | none => none
  | some x => (rdTs r).map (x :: ·)
def rdX (l : List Fld) : Option Txd :=
 (rdTs (takT 5 (takN 4 (takN 3 (takN 2 (takT 1 l).2).2).2).2).2).map fun A =>
  ⟨(takT 1 l).1, (takN 2 (takT 1 l).2).1, (takN 3 (takN 2 (takT 1 l).2).2).1, (takN 4 (takN 3 (takN 2 (takT 1 l).2).2).2).1, (takT 5 (takN 4 (takN 3 (takN 2 (takT 1 l).2).2).2).2).1, A⟩
theorem takT_yes {k : Int} {f : Fld} {r : List Fld} (h : f.num = k ∧ f.kind = 2 ∧ f.bytes.length ≠ 0) : takT k (f :: r) = (strOfNums f.bytes, r) := if_pos h
theorem takT_no {k : Int} {f : Fld} {r : List Fld} (h : ¬ (f.num = k ∧ f.kind = 2 ∧ f.bytes.length ≠ 0)) : takT k (f :: r) = (mtS, f :: r) := if_neg h
theorem takN_yes {k : Int} {f : Fld} {r : List Fld} (h : f.num = k ∧ f.kind = 0 ∧ f.val ≠ 0) : takN k (f :: r) = (f.val, r) := if_pos h
theorem takN_no {k : Int} {f : Fld} {r : List Fld} (h : ¬ (f.num = k ∧ f.kind = 0 ∧ f.val ≠ 0)) : takN k (f :: r) = (0, f :: r) := if_neg h
theorem str_len0 {L : List Int} (h : L.length ≠ 0) (hb : ∀ x, x ∈ L → 0 ≤ x ∧ x ≤ 255) : (strOfNums L).size ≠ 0 := by
 rw [← nums_len, nums_str L (fun x hx => hb x hx)]
 exact h
theorem takT_spec (k : Int) (l : List Fld) (h : ∀ f, f ∈ l → Vf f) : l = tF k (takT k l).1 ++ (takT k l).2 := by
 cases l with
 | nil => rfl
 | cons f r =>
  by_cases hc : f.num = k ∧ f.kind = 2 ∧ f.bytes.length ≠ 0
  ·rw [takT_yes hc]
   obtain ⟨h1, h2, h3⟩ := hc
   have hv := h f (by simp)
   have hb := hv.2.2.1
   simp only
   rw [tF_yes (str_len0 h3 hb), nums_str _ (fun x hx => hb x hx)]
   have hval : f.val = 0 := by
    rcases hv.1.2.2 with a | a
    ·omega
    ·exact a.2
   obtain ⟨n, kd, v, b⟩ := f
   simp only at h1 h2 hval
   subst h1 h2 hval
   rfl
  ·rw [takT_no hc]; rfl
theorem takN_spec (k : Int) (l : List Fld) (h : ∀ f, f ∈ l → Vf f) : l = nF k (takN k l).1 ++ (takN k l).2 := by
 cases l with
 | nil => rfl
 | cons f r =>
  by_cases hc : f.num = k ∧ f.kind = 0 ∧ f.val ≠ 0
  ·rw [takN_yes hc]
   obtain ⟨h1, h2, h3⟩ := hc
   have hv := h f (by simp)
   have hz : f.bytes = [] := by
    rcases hv.1.2.2 with a | a
    ·exact List.eq_nil_of_length_eq_zero a.2
    ·omega
   simp only
   rw [nF_yes h3]
   obtain ⟨n, kd, v, b⟩ := f
   simp only at h1 h2 hz
   subst h1 h2 hz
   rfl
  ·rw [takN_no hc]; rfl
theorem takT_vf {k : Int} {l : List Fld} (h : ∀ f, f ∈ l → Vf f) : ∀ f, f ∈ (takT k l).2 → Vf f := fun f hf => h f (by rw [takT_spec k l h]; exact List.mem_append_right _ hf)
theorem takN_vf {k : Int} {l : List Fld} (h : ∀ f, f ∈ l → Vf f) : ∀ f, f ∈ (takN k l).2 → Vf f := fun f hf => h f (by rw [takN_spec k l h]; exact List.mem_append_right _ hf)
theorem takN_w {k : Int} {l : List Fld} (h : ∀ f, f ∈ l → Vf f) : W64 (takN k l).1 := by
 cases l with
 | nil => exact w64_0
 | cons f r =>
  by_cases hc : f.num = k ∧ f.kind = 0 ∧ f.val ≠ 0
  ·rw [takN_yes hc]; exact (h f (by simp)).2.1
  ·rw [takN_no hc]; exact w64_0
theorem rdTf_spec {f : Fld} (hv : Vf f) {x : Tf} (h : rdTf f = some x) : f = tfF x ∧ W64 x.2 := by
 unfold rdTf at h
 split at h
 ·rename_i hc
  obtain ⟨h1, h2, h3, h4⟩ := hc
  simp only [Option.some.injEq] at h
  have hb := hv.2.2.1
  rcases flds_ok hb hv.2.2.2 with ⟨-, q⟩ | ⟨P, e, hm, hP⟩
  ·exact absurd h3 q
  ·rw [e] at h h4
   simp only at h h4
   have a := takT_spec 1 P hP
   have b := takN_spec 2 _ (takT_vf (k := 1) hP)
   rw [List.eq_nil_of_length_eq_zero h4, List.append_nil] at b
   rw [b] at a
   have hw := takN_w (k := 2) (takT_vf (k := 1) hP)
   subst h
   refine ⟨?_, hw⟩
   have hval : f.val = 0 := by
    rcases hv.1.2.2 with q | q
    ·omega
    ·exact q.2
   obtain ⟨n, kd, v, bs⟩ := f
   simp only at h1 h2 hval hm
   subst h1 h2 hval
   unfold tfF trF
   rw [← hm]
   congr 1
   exact congrArg msg a
 ·cases h
theorem rdTs_spec : ∀ {l : List Fld} (hv : ∀ f, f ∈ l → Vf f) {A : List Tf}, rdTs l = some A → l = A.map tfF ∧ ∀ x, x ∈ A → W64 x.2
 | [], _, A, h => by
  simp only [rdTs, Option.some.injEq] at h
  subst h
  exact ⟨rfl, fun x hx => by cases hx⟩
 | f :: r, hv, A, h => by
  unfold rdTs at h
  cases e : rdTf f with
  | none => rw [e] at h; cases h
  | some x =>
   rw [e] at h
   simp only [Option.map_eq_some_iff] at h
   obtain ⟨B, hB, rfl⟩ := h
   obtain ⟨e1, w1⟩ := rdTf_spec (hv f (by simp)) e
   obtain ⟨e2, w2⟩ := rdTs_spec (fun g hg => hv g (by simp [hg])) hB
   refine ⟨by rw [List.map_cons, ← e1, ← e2], fun y hy => ?_⟩
   rcases List.mem_cons.1 hy with rfl | hy
   ·exact w1
   ·exact w2 y hy
theorem rdX_spec {l : List Fld} (hv : ∀ f, f ∈ l → Vf f) {t : Txd} (h : rdX l = some t) : l = txF t ∧ W64 t.sq ∧ W64 t.gas ∧ W64 t.fee ∧ ∀ x, x ∈ t.tr → W64 x.2 := by
 unfold rdX at h
 simp only [Option.map_eq_some_iff] at h
 obtain ⟨A, hA, rfl⟩ := h
 have v1 := takT_vf (k := 1) hv
 have v2 := takN_vf (k := 2) v1
 have v3 := takN_vf (k := 3) v2
 have v4 := takN_vf (k := 4) v3
 have v5 := takT_vf (k := 5) v4
 obtain ⟨e6, w6⟩ := rdTs_spec v5 hA
 refine ⟨?_, takN_w v1, takN_w v2, takN_w v3, w6⟩
 unfold txF
 simp only
 rw [← e6, ← takT_spec 5 _ v4, ← takN_spec 4 _ v3, ← takN_spec 3 _ v2, ← takN_spec 2 _ v1, ← takT_spec 1 _ hv]
/-- All numbers are greater. -/
def Gtr (k : Int) (l : List Fld) : Prop := ∀ f, f ∈ l → k < f.num
theorem takT_take {k : Int} {s : ByteArray} {r : List Fld} (h : Gtr k r) : takT k (tF k s ++ r) = (s, r) := by
 by_cases h0 : s.size = 0
 ·rw [tF_no h0, mt_of h0]
  cases r with
  | nil => rfl
  | cons f r =>
   have := h f (by simp)
   exact takT_no (by omega)
 ·rw [tF_yes h0, List.singleton_append, takT_yes (f := ⟨k, 2, 0, nums s⟩) ⟨rfl, rfl, by show (nums s).length ≠ 0; rw [nums_len]; exact h0⟩]
  show (strOfNums (nums s), r) = _
  rw [str_nums]
theorem takN_take {k v : Int} {r : List Fld} (h : Gtr k r) : takN k (nF k v ++ r) = (v, r) := by
 by_cases h0 : v = 0
 ·subst h0
  rw [nF_no]
  cases r with
  | nil => rfl
  | cons f r =>
   have := h f (by simp)
   exact takN_no (by omega)
 ·rw [nF_yes h0, List.singleton_append, takN_yes (f := ⟨k, 0, v, []⟩) ⟨rfl, rfl, h0⟩]
theorem gtrT {j k : Int} {s : ByteArray} {r : List Fld} (h : j < k) (hr : Gtr j r) : Gtr j (tF k s ++ r) := fun f hf => by
 rcases List.mem_append.1 hf with hf | hf
 ·by_cases h0 : s.size = 0
  ·rw [tF_no h0] at hf; cases hf
  ·rw [tF_yes h0, List.mem_singleton] at hf
   subst hf
   exact h
 ·exact hr f hf
theorem gtrN {j k v : Int} {r : List Fld} (h : j < k) (hr : Gtr j r) : Gtr j (nF k v ++ r) := fun f hf => by
 rcases List.mem_append.1 hf with hf | hf
 ·by_cases h0 : v = 0
  ·subst h0; rw [nF_no] at hf; cases hf
  ·rw [nF_yes h0, List.mem_singleton] at hf
   subst hf
   exact h
 ·exact hr f hf
theorem gtr_map {j : Int} (h : j < 6) (A : List Tf) : Gtr j (A.map tfF) := fun f hf => by
 obtain ⟨x, -, rfl⟩ := List.mem_map.1 hf
 exact h
theorem gtrNil (j : Int) : Gtr j [] := fun f hf => by cases hf
theorem flds_tr {x : Tf} (hs : x.1.size ≤ 900000) (hv : W64 x.2) : flds (msg (trF x)) = (trF x, 0, 0) := by
 refine flds_msg (vf_tr hs hv) ?_
 unfold trF tF nF
 rw [List.length_append]
 split <;> split <;> simp
theorem rdTf_tf {x : Tf} (hs : x.1.size ≤ 900000) (hv : W64 x.2) : rdTf (tfF x) = some x := by
 have e : (tfF x).bytes = msg (trF x) := rfl
 unfold rdTf
 rw [e, flds_tr hs hv]
 have a : takT 1 (trF x) = (x.1, nF 2 x.2) := by
  have q : Gtr 1 (nF 2 x.2) := by
   have := gtrN (j := 1) (k := 2) (v := x.2) (by decide) (gtrNil 1)
   rwa [List.append_nil] at this
  exact takT_take q
 have b : takN 2 (nF 2 x.2) = (x.2, []) := by
  have := takN_take (k := 2) (v := x.2) (gtrNil 2)
  rwa [List.append_nil] at this
 simp only [a, b]
 rw [if_pos ⟨rfl, rfl, trivial, rfl⟩]
theorem rdTs_map : ∀ (A : List Tf), (∀ x, x ∈ A → x.1.size ≤ 900000 ∧ W64 x.2) → rdTs (A.map tfF) = some A
 | [], _ => rfl
 | x :: r, h => by
  have := h x (by simp)
  rw [List.map_cons, rdTs, rdTf_tf this.1 this.2, rdTs_map r (fun y hy => h y (by simp [hy]))]
  rfl
theorem rdX_form {t : Txd} (h : OkX t) : rdX (txF t) = some t := by
 have g6 := gtr_map (j := 5) (by decide) t.tr
 have e1 : takT 1 (txF t) = (t.snd, nF 2 t.sq ++ (nF 3 t.gas ++ (nF 4 t.fee ++ (tF 5 t.memo ++ t.tr.map tfF)))) := takT_take (gtrN (by decide) (gtrN (by decide) (gtrN (by decide) (gtrT (by decide) (gtr_map (by decide) _)))))
 have e2 : takN 2 (nF 2 t.sq ++ (nF 3 t.gas ++ (nF 4 t.fee ++ (tF 5 t.memo ++ t.tr.map tfF)))) = (t.sq, nF 3 t.gas ++ (nF 4 t.fee ++ (tF 5 t.memo ++ t.tr.map tfF))) := takN_take (gtrN (by decide) (gtrN (by decide) (gtrT (by decide) (gtr_map (by decide) _))))
 have e3 : takN 3 (nF 3 t.gas ++ (nF 4 t.fee ++ (tF 5 t.memo ++ t.tr.map tfF))) = (t.gas, nF 4 t.fee ++ (tF 5 t.memo ++ t.tr.map tfF)) := takN_take (gtrN (by decide) (gtrT (by decide) (gtr_map (by decide) _)))
 have e4 : takN 4 (nF 4 t.fee ++ (tF 5 t.memo ++ t.tr.map tfF)) = (t.fee, tF 5 t.memo ++ t.tr.map tfF) := takN_take (gtrT (by decide) (gtr_map (by decide) _))
 have e5 : takT 5 (tF 5 t.memo ++ t.tr.map tfF) = (t.memo, t.tr.map tfF) := takT_take g6
 have e6 := rdTs_map t.tr (fun x hx => by have := h.tr hx; exact ⟨by omega, this.2⟩)
 unfold rdX
 simp only [e1, e2, e3, e4, e5, e6, Option.map_some]

/-! The reference's way: the fields in any order, then compared. -/
def zX : Txd := ⟨mtS, 0, 0, 0, mtS, []⟩
def rfTr : Tf → List Fld → Option Tf
 | x, [] => some x
 | x, f :: r => if f.num = 1 ∧ f.kind = 2 then rfTr (strOfNums f.bytes, x.2) r else if f.num = 2 ∧ f.kind = 0 then rfTr (x.1, f.val) r else none
def rfT (b : List Int) : Option Tf := match rfTr (mtS, 0) (flds b).1 with
 | none => none
 | some x => if (flds b).2.2 = 0 ∧ msg (trF x) = b then some x else none
def rfS (t : Txd) (f : Fld) : Option Txd :=
 if f.num = 1 ∧ f.kind = 2 then some { t with snd := strOfNums f.bytes } else if f.num = 2 ∧ f.kind = 0 then some { t with sq := f.val } else if f.num = 3 ∧ f.kind = 0 then some { t with gas := f.val } else if f.num = 4 ∧ f.kind = 0 then some { t with fee := f.val } else if f.num = 5 ∧ f.kind = 2 then some { t with memo := strOfNums f.bytes } else if f.num = 6 ∧ f.kind = 2 then (rfT f.bytes).map fun x => { t with tr := t.tr ++ [x] } else none
def rfX : Txd → List Fld → Option Txd
 | t, [] => some t
 | t, f :: r => match rfS t f with
  | none => none
  | some u => rfX u r
theorem rfX_cons (t : Txd) (f : Fld) (r : List Fld) : rfX t (f :: r) = (rfS t f).bind fun u => rfX u r := by
 rw [rfX]
 cases rfS t f <;> rfl
theorem rfTr_tr {x : Tf} : rfTr (mtS, 0) (trF x) = some x := by
 unfold trF
 by_cases h : x.1.size = 0
 ·rw [tF_no h, List.nil_append]
  by_cases h0 : x.2 = 0
  ·rw [h0, nF_no]
   show some (mtS, (0 : Int)) = some x
   rw [← mt_of h, ← h0]
  ·rw [nF_yes h0, rfTr, if_neg (fun h => absurd h.1 (show ¬ (2 : Int) = 1 by decide)), if_pos ⟨rfl, rfl⟩, rfTr]
   show some (mtS, x.2) = some x
   rw [← mt_of h]
 ·rw [tF_yes h, List.singleton_append, rfTr, if_pos ⟨rfl, rfl⟩]
  simp only [str_nums]
  by_cases h0 : x.2 = 0
  ·rw [h0, nF_no, rfTr, ← h0]
  ·rw [nF_yes h0, rfTr, if_neg (fun h => absurd h.1 (show ¬ (2 : Int) = 1 by decide)), if_pos ⟨rfl, rfl⟩, rfTr]
theorem rfT_tr {x : Tf} (hs : x.1.size ≤ 900000) (hv : W64 x.2) : rfT (msg (trF x)) = some x := by
 unfold rfT
 rw [flds_tr hs hv]
 simp only [rfTr_tr]
 rw [if_pos ⟨trivial, trivial⟩]
theorem rfX_map : ∀ (A : List Tf) (t : Txd), (∀ x, x ∈ A → x.1.size ≤ 900000 ∧ W64 x.2) → rfX t (A.map tfF) = some { t with tr := t.tr ++ A }
 | [], t, _ => by simp [rfX]
 | x :: r, t, h => by
  have hx := h x (by simp)
  have e : rfS t (tfF x) = some { t with tr := t.tr ++ [x] } := by
   unfold rfS
   rw [if_neg (by show ¬ ((6 : Int) = 1 ∧ _); omega), if_neg (by show ¬ ((6 : Int) = 2 ∧ _); omega), if_neg (by show ¬ ((6 : Int) = 3 ∧ _); omega), if_neg (by show ¬ ((6 : Int) = 4 ∧ _); omega), if_neg (by show ¬ ((6 : Int) = 5 ∧ _); omega), if_pos ⟨rfl, rfl⟩]
   show (rfT (msg (trF x))).map _ = _
   rw [rfT_tr hx.1 hx.2]
   rfl
  rw [List.map_cons, rfX_cons, e, Option.bind_some, rfX_map r _ (fun y hy => h y (by simp [hy]))]
  simp
theorem rfX_t1 {t : Txd} (h : t.snd = mtS) (s : ByteArray) (r : List Fld) : rfX t (tF 1 s ++ r) = rfX { t with snd := s } r := by
 by_cases h0 : s.size = 0
 ·rw [tF_no h0, mt_of h0, List.nil_append, ← h]
 ·rw [tF_yes h0, List.singleton_append, rfX_cons]
  unfold rfS
  rw [if_pos ⟨rfl, rfl⟩]
  simp only [str_nums, Option.bind_some]
theorem rfX_t5 {t : Txd} (h : t.memo = mtS) (s : ByteArray) (r : List Fld) : rfX t (tF 5 s ++ r) = rfX { t with memo := s } r := by
 by_cases h0 : s.size = 0
 ·rw [tF_no h0, mt_of h0, List.nil_append, ← h]
 ·rw [tF_yes h0, List.singleton_append, rfX_cons]
  unfold rfS
  simp only [str_nums]
  rfl
theorem rfX_n2 {t : Txd} (h : t.sq = 0) (v : Int) (r : List Fld) : rfX t (nF 2 v ++ r) = rfX { t with sq := v } r := by
 by_cases h0 : v = 0
 ·rw [h0, nF_no, List.nil_append, ← h]
 ·rw [nF_yes h0, List.singleton_append, rfX_cons]
  rfl
theorem rfX_n3 {t : Txd} (h : t.gas = 0) (v : Int) (r : List Fld) : rfX t (nF 3 v ++ r) = rfX { t with gas := v } r := by
 by_cases h0 : v = 0
 ·rw [h0, nF_no, List.nil_append, ← h]
 ·rw [nF_yes h0, List.singleton_append, rfX_cons]
  rfl
theorem rfX_n4 {t : Txd} (h : t.fee = 0) (v : Int) (r : List Fld) : rfX t (nF 4 v ++ r) = rfX { t with fee := v } r := by
 by_cases h0 : v = 0
 ·rw [h0, nF_no, List.nil_append, ← h]
 ·rw [nF_yes h0, List.singleton_append, rfX_cons]
  rfl
theorem rfX_form {t : Txd} (h : OkX t) : rfX zX (txF t) = some t := by
 unfold txF
 rw [rfX_t1 rfl, rfX_n2 rfl, rfX_n3 rfl, rfX_n4 rfl, rfX_t5 rfl, rfX_map _ _ (fun x hx => by have := h.tr hx; exact ⟨by omega, this.2⟩)]
 rfl
def bkF : List Fld → Nat
 | [] => 0
 | f :: r => 60 + f.bytes.length + bkF r
theorem bkF_msg : ∀ P : List Fld, bkF P ≤ 61 * (msg P).length
 | [] => by simp [bkF]
 | f :: r => by
  have a := bkF_msg r
  have b := encF_pos f
  have c := encI_len_ge f.num f.kind f.val f.bytes
  have c2 : f.bytes.length ≤ (encF f).length := c
  rw [bkF, msg_cons, List.length_append]
  omega
theorem rfT_spec {b : List Int} {x : Tf} (hb : ∀ y, y ∈ b → 0 ≤ y ∧ y ≤ 255) (hl : b.length ≤ 1000000) (h : rfT b = some x) : msg (trF x) = b ∧ W64 x.2 := by
 unfold rfT at h
 have key : ∀ (l : List Fld) (y : Tf), (∀ f, f ∈ l → Vf f) → W64 y.2 → rfTr y l = some x → W64 x.2 := by
  intro l
  induction l with
  | nil =>
   intro y _ hy e
   simp only [rfTr, Option.some.injEq] at e
   rw [← e]; exact hy
  | cons f r ih =>
   intro y hv hy e
   rw [rfTr] at e
   split at e
   ·exact ih (strOfNums f.bytes, y.2) (fun g hg => hv g (by simp [hg])) hy e
   ·split at e
    ·exact ih (y.1, f.val) (fun g hg => hv g (by simp [hg])) (hv f (by simp)).2.1 e
    ·cases e
 rcases flds_ok hb hl with ⟨e0, q⟩ | ⟨P, e0, hm, hP⟩
 ·rw [e0] at h
  simp only [rfTr] at h
  rw [if_neg (fun h => q h.1)] at h
  cases h
 ·rw [e0] at h
  simp only at h
  cases e : rfTr (mtS, 0) P with
  | none => rw [e] at h; cases h
  | some y =>
   rw [e] at h
   simp only at h
   split at h
   ·rename_i hc
    simp only [Option.some.injEq] at h
    subst h
    exact ⟨hc.2, key P (mtS, 0) hP w64_0 e⟩
   ·cases h
/-- What was read so far. -/
structure Red (t : Txd) (n : Nat) : Prop where
 sq : W64 t.sq
 gas : W64 t.gas
 fee : W64 t.fee
 am : ∀ x, x ∈ t.tr → W64 x.2
 wt : wtX t ≤ 100 + n
theorem Red.zero : Red zX 0 := ⟨w64_0, w64_0, w64_0, fun x (hx : x ∈ ([] : List Tf)) => (by cases hx), Nat.le_refl _⟩
theorem str_size (L : List Int) (h : ∀ x, x ∈ L → 0 ≤ x ∧ x ≤ 255) : (strOfNums L).size = L.length := by
 rw [← nums_len, nums_str L (fun x hx => h x hx)]
theorem Red.step {t u : Txd} {n : Nat} {f : Fld} (h : Red t n) (hv : Vf f) (e : rfS t f = some u) : Red u (n + (60 + f.bytes.length)) := by
 obtain ⟨h1, h2, h3, h4, h5⟩ := h
 have hs := str_size f.bytes hv.2.2.1
 unfold wtX at h5
 unfold rfS at e
 split at e
 ·simp only [Option.some.injEq] at e
  subst e
  exact ⟨h1, h2, h3, h4, by unfold wtX; simp only; omega⟩
 split at e
 ·simp only [Option.some.injEq] at e
  subst e
  exact ⟨hv.2.1, h2, h3, h4, by unfold wtX; simp only; omega⟩
 split at e
 ·simp only [Option.some.injEq] at e
  subst e
  exact ⟨h1, hv.2.1, h3, h4, by unfold wtX; simp only; omega⟩
 split at e
 ·simp only [Option.some.injEq] at e
  subst e
  exact ⟨h1, h2, hv.2.1, h4, by unfold wtX; simp only; omega⟩
 split at e
 ·simp only [Option.some.injEq] at e
  subst e
  exact ⟨h1, h2, h3, h4, by unfold wtX; simp only; omega⟩
 split at e
 ·simp only [Option.map_eq_some_iff] at e
  obtain ⟨x, hx, rfl⟩ := e
  obtain ⟨hm, hw⟩ := rfT_spec hv.2.2.1 hv.2.2.2 hx
  have hl := msg_trF x
  rw [hm] at hl
  refine ⟨h1, h2, h3, fun y hy => ?_, ?_⟩
  ·rcases List.mem_append.1 hy with hy | hy
   ·exact h4 y hy
   ·rw [List.mem_singleton] at hy
    subst hy
    exact hw
  ·unfold wtX
   simp only [trW_app, trW]
   omega
 ·cases e
theorem Red.all : ∀ (l : List Fld) (t u : Txd) (n : Nat), Red t n → (∀ f, f ∈ l → Vf f) → rfX t l = some u → Red u (n + bkF l)
 | [], t, u, n, h, _, e => by
  simp only [rfX, Option.some.injEq] at e
  subst e
  exact h
 | f :: r, t, u, n, h, hv, e => by
  rw [rfX_cons] at e
  cases e2 : rfS t f with
  | none => rw [e2] at e; cases e
  | some v =>
   rw [e2, Option.bind_some] at e
   have := Red.all r v u _ (h.step (hv f (by simp)) e2) (fun g hg => hv g (by simp [hg])) e
   rw [bkF]
   exact ⟨this.sq, this.gas, this.fee, this.am, by have := this.wt; omega⟩
theorem rfX_ok {l : List Fld} {u : Txd} (hv : ∀ f, f ∈ l → Vf f) (hl : (msg l).length ≤ 4096) (h : rfX zX l = some u) : OkX u := by
 have a := Red.all l zX u 0 Red.zero hv h
 have b := bkF_msg l
 exact ⟨a.sq, a.gas, a.fee, a.am, by have := a.wt; omega⟩
/-- Both ways agree. -/
theorem rd_rf {l : List Fld} (hv : ∀ f, f ∈ l → Vf f) (hl : (msg l).length ≤ 4096) : rdX l = (rfX zX l).bind fun t => if form t = msg l then some t else none := by
 cases e : rdX l with
 | some t =>
  obtain ⟨h1, h2, h3, h4, h5⟩ := rdX_spec hv e
  have hok : OkX t := ⟨h2, h3, h4, h5, by
   have := (form_len t).2
   have e2 : (form t).length = (msg l).length := by rw [h1]; rfl
   omega⟩
  rw [h1, rfX_form hok, Option.bind_some, if_pos (show form t = msg (txF t) from rfl)]
 | none =>
  cases e2 : rfX zX l with
  | none => rfl
  | some t =>
   rw [Option.bind_some]
   have hok := rfX_ok hv hl e2
   by_cases hf : form t = msg l
   ·exfalso
    have := msg_inj _ _ hok.vf hv hf
    rw [← this, rdX_form hok] at e
    cases e
   ·rw [if_neg hf]
/-- Decode: the transaction, the error. -/
def decX (L : List Int) : Txd × Int :=
 if 4096 < L.length then (zX, 3) else if (flds L).2.2 ≠ 0 then (zX, 4) else match rdX (flds L).1 with
 | none => (zX, 4)
 | some t => if valX t = 0 then (t, 0) else (zX, valX t)
/-- Encode: the bytes, the error. -/
def encX (t : Txd) : List Int × Int := if valX t ≠ 0 then ([], valX t) else if 4096 < (form t).length then ([], 3) else (form t, 0)
theorem dec_ok {L : List Int} {t : Txd} (hb : ∀ x, x ∈ L → 0 ≤ x ∧ x ≤ 255) (h : decX L = (t, 0)) : valX t = 0 ∧ form t = L ∧ OkX t ∧ L.length ≤ 4096 := by
 unfold decX at h
 split at h
 ·simp at h
 rename_i hlen
 split at h
 ·simp at h
 rename_i hfl
 have hfl : (flds L).2.2 = 0 := by simpa using hfl
 rcases flds_ok hb (by omega) with ⟨-, q⟩ | ⟨P, e0, hm, hP⟩
 ·exact absurd hfl q
 rw [e0] at h
 cases e : rdX P with
 | none => simp [e] at h
 | some u =>
  simp only [e] at h
  split at h
  ·rename_i hval
   simp only [Prod.mk.injEq, and_true] at h
   subst h
   obtain ⟨h1, h2, h3, h4, h5⟩ := rdX_spec hP e
   have hf : form u = L := by unfold form; rw [← h1]; exact hm
   refine ⟨hval, hf, ⟨h2, h3, h4, h5, ?_⟩, by omega⟩
   have := (form_len u).2
   rw [hf] at this
   omega
  ·rename_i hval
   simp only [Prod.mk.injEq] at h
   exact absurd h.2 hval
theorem dec_enc {t : Txd} (h : OkX t) (hv : valX t = 0) (hl : (form t).length ≤ 4096) (hn : t.tr.length ≤ 1000) : decX (form t) = (t, 0) := by
 have hc : (txF t).length ≤ 1024 := by
  have q1 : ∀ k s, (tF k s).length ≤ 1 := fun k s => by unfold tF; split <;> simp
  have q2 : ∀ k v, (nF k v).length ≤ 1 := fun k s => by unfold nF; split <;> simp
  unfold txF
  simp only [List.length_append, List.length_map]
  have a := q1 1 t.snd
  have b := q2 2 t.sq
  have c := q2 3 t.gas
  have d := q2 4 t.fee
  have e := q1 5 t.memo
  omega
 have e := flds_msg h.vf hc
 unfold decX
 rw [if_neg (by omega)]
 show (if (flds (msg (txF t))).2.2 ≠ 0 then _ else _) = _
 unfold form
 rw [e, if_neg (by simp)]
 simp only [rdX_form h]
 rw [if_pos hv]
theorem decX_len {L : List Int} (h : 4096 < L.length) : decX L = (zX, 3) := by unfold decX; rw [if_pos h]
theorem decX_fld {L : List Int} (h : L.length ≤ 4096) (h2 : (flds L).2.2 ≠ 0) : decX L = (zX, 4) := by unfold decX; rw [if_neg (by omega), if_pos h2]
theorem isName_len {L : List Int} (h : isName L = true) : L.length ≤ 20 := by
 unfold isName at h
 simp at h
 exact h.2.2
theorem runs_len : ∀ (n i : Nat) (L : List Int) (m : Nat), L.length - i ≤ n → runs L i = some m → L.length ≤ i + 4 * m
 | 0, i, L, m, h, e => by omega
 | n + 1, i, L, m, h, e => by
  by_cases hi : i < L.length
  ·by_cases hk : runK L i = 0
   ·rw [runs_bad hi hk] at e; cases e
   ·rw [runs_step hi hk] at e
    simp only [Option.map_eq_some_iff] at e
    obtain ⟨q, hq, rfl⟩ := e
    have := runs_len n (i + runK L i) L q (by omega) hq
    have := run_le L i
    omega
  ·omega
theorem isMemo_len {L : List Int} (h : isMemo L = true) : L.length ≤ 256 := by
 unfold isMemo at h
 cases e : runs L 0 with
 | none => rw [e] at h; cases h
 | some n =>
  rw [e] at h
  have := runs_len L.length 0 L n (by omega) e
  have h2 : n ≤ 64 := by simpa using h
  omega
theorem valT_len : ∀ {A : List Tf}, valT A = 0 → ∀ x, x ∈ A → x.1.size ≤ 20
 | [], _, x, hx => by cases hx
 | y :: r, h, x, hx => by
  unfold valT at h
  split at h
  ·omega
  rename_i hn
  split at h
  ·omega
  rcases List.mem_cons.1 hx with rfl | hx
  ·have := isName_len (by simpa using hn : isName (nums x.1) = true)
   rwa [nums_len] at this
  ·exact valT_len h x hx
theorem trW_le : ∀ (A : List Tf) (k : Nat), (∀ x, x ∈ A → x.1.size ≤ k) → trW A ≤ A.length * (60 + k)
 | [], k, _ => by simp [trW]
 | x :: r, k, h => by
  have a := trW_le r k (fun y hy => h y (by simp [hy]))
  have b := h x (by simp)
  rw [trW, List.length_cons, Nat.add_mul]
  omega
/-- A valid transaction is short. -/
theorem val_ok {t : Txd} (h : valX t = 0) (h1 : W64 t.sq) (h2 : W64 t.gas) (h3 : W64 t.fee) (h4 : ∀ x, x ∈ t.tr → W64 x.2) : OkX t ∧ wtX t ≤ 2000 ∧ t.tr.length ≤ 16 := by
 unfold valX at h
 split at h
 ·omega
 rename_i a1
 split at h
 ·omega
 split at h
 ·omega
 rename_i a3
 split at h
 ·omega
 rename_i a4
 have b1 := isName_len (by simpa using a1 : isName (nums t.snd) = true)
 have b2 := isMemo_len (by simpa using a3 : isMemo (nums t.memo) = true)
 rw [nums_len] at b1 b2
 have b3 := trW_le t.tr 20 (valT_len h)
 have b4 : t.tr.length * 80 ≤ 16 * 80 := Nat.mul_le_mul_right _ (by omega)
 have : wtX t ≤ 2000 := by unfold wtX; omega
 exact ⟨⟨h1, h2, h3, h4, by omega⟩, this, by omega⟩
end Go.Proofs.Ytglglhcnofbagaa
namespace Go.Proofs.Ytglglhcnofbagaa
attribute [local irreducible] wpList wpQuiet
open Go.RowKit
set_option linter.unusedSimpArgs false
set_option linter.unusedVariables false

set_option maxRecDepth 100000 in
set_option maxHeartbeats 8000000 in
theorem q_inname (c : Int) (w : World) : Calls Try.prog 69 #[.int .u8 c] w fun e w' => e = .returned (.bool (nmB c)) ∧ w = w' := by
 have hcl : (97 ≤ c ∧ c ≤ 122) ∨ (48 ≤ c ∧ c ≤ 57) ∨ c = 45 ∨ 122 < c ∨ (57 < c ∧ c < 97) ∨ (c < 48 ∧ c ≠ 45) := by omega
 rcases hcl with hc | hc | hc | hc | hc | hc
 ·have HE : nmB c = true := by
   simp only [nmB, Bool.or_eq_true, Bool.and_eq_true, decide_eq_true_eq]; omega
  rw [HE]
  go_enter Try.func69, Try.ntmps69
  go_upto_region 1 with fail
  refine wl <| gz1 (.int .u8 c) <| gzb (leq_u rfl (97) (c) dT) <| gz2 (.bool true) (.int .u8 c) <| gzb (leq_u rfl (c) (122) dT) <|
   gz6 (.bool true) (.bool true) undef undef undef undef <| gz6 undef undef (.bool true) (.bool true) undef undef <| gz2 (.bool true) (.bool true) <| wn ?_
  simp only [pu]
  go_wp2_with fail
  go_ret
  exact ⟨rfl, rfl⟩
 ·have HE : nmB c = true := by
   simp only [nmB, Bool.or_eq_true, Bool.and_eq_true, decide_eq_true_eq]; omega
  rw [HE]
  go_enter Try.func69, Try.ntmps69
  go_upto_region 1 with fail
  refine wl <| gz1 (.int .u8 c) <| gzb (leq_u rfl (97) (c) dF) <| gz6 (.bool false) undef undef (.bool false) (.bool false) (.int .u8 c) <|
   gzb (leq_u rfl (48) (c) dT) <| gz2 (.bool true) (.int .u8 c) <| gzb (leq_u rfl (c) (57) dT) <|
   gz6 (.bool true) (.bool true) (.bool true) undef undef (.bool true) <| gz1 (.bool true) <| wn ?_
  simp only [pu]
  go_wp2_with fail
  go_ret
  exact ⟨rfl, rfl⟩
 ·have HE : nmB c = true := by
   simp only [nmB, Bool.or_eq_true, Bool.and_eq_true, decide_eq_true_eq]; omega
  rw [HE]
  go_enter Try.func69, Try.ntmps69
  go_upto_region 1 with fail
  refine wl <| gz1 (.int .u8 c) <| gzb (leq_u rfl (97) (c) dF) <| gz6 (.bool false) undef undef (.bool false) (.bool false) (.int .u8 c) <|
   gzb (leq_u rfl (48) (c) dF) <| gz6 (.bool false) undef undef (.bool false) (.bool false) (.bool false) <| gz1 (.int .u8 c) <|
   gzb (eql_u rfl (c) (45) dT) <| gz2 (.bool true) (.bool true) <| wn ?_
  simp only [pu]
  go_wp2_with fail
  go_ret
  exact ⟨rfl, rfl⟩
 ·have HE : nmB c = false := by
   rw [Bool.eq_false_iff]; simp only [ne_eq, nmB, Bool.or_eq_true, Bool.and_eq_true, decide_eq_true_eq]; omega
  rw [HE]
  go_enter Try.func69, Try.ntmps69
  go_upto_region 1 with fail
  refine wl <| gz1 (.int .u8 c) <| gzb (leq_u rfl (97) (c) dT) <| gz2 (.bool true) (.int .u8 c) <| gzb (leq_u rfl (c) (122) dF) <|
   gz3 (.bool false) (.bool false) (.int .u8 c) <| gzb (leq_u rfl (48) (c) dT) <| gz2 (.bool true) (.int .u8 c) <| gzb (leq_u rfl (c) (57) dF) <|
   gz4 (.bool false) (.bool false) (.bool false) (.int .u8 c) <| gzb (eql_u rfl (c) (45) dF) <| gz2 (.bool false) (.bool false) <| wn ?_
  simp only [pu]
  go_wp2_with fail
  go_ret
  exact ⟨rfl, rfl⟩
 ·have HE : nmB c = false := by
   rw [Bool.eq_false_iff]; simp only [ne_eq, nmB, Bool.or_eq_true, Bool.and_eq_true, decide_eq_true_eq]; omega
  rw [HE]
  go_enter Try.func69, Try.ntmps69
  go_upto_region 1 with fail
  refine wl <| gz1 (.int .u8 c) <| gzb (leq_u rfl (97) (c) dF) <| gz6 (.bool false) undef undef (.bool false) (.bool false) (.int .u8 c) <|
   gzb (leq_u rfl (48) (c) dT) <| gz2 (.bool true) (.int .u8 c) <| gzb (leq_u rfl (c) (57) dF) <|
   gz4 (.bool false) (.bool false) (.bool false) (.int .u8 c) <| gzb (eql_u rfl (c) (45) dF) <| gz2 (.bool false) (.bool false) <| wn ?_
  simp only [pu]
  go_wp2_with fail
  go_ret
  exact ⟨rfl, rfl⟩
 ·have HE : nmB c = false := by
   rw [Bool.eq_false_iff]; simp only [ne_eq, nmB, Bool.or_eq_true, Bool.and_eq_true, decide_eq_true_eq]; omega
  rw [HE]
  go_enter Try.func69, Try.ntmps69
  go_upto_region 1 with fail
  refine wl <| gz1 (.int .u8 c) <| gzb (leq_u rfl (97) (c) dF) <| gz6 (.bool false) undef undef (.bool false) (.bool false) (.int .u8 c) <|
   gzb (leq_u rfl (48) (c) dF) <| gz6 (.bool false) undef undef (.bool false) (.bool false) (.bool false) <| gz1 (.int .u8 c) <|
   gzb (eql_u rfl (c) (45) dF) <| gz2 (.bool false) (.bool false) <| wn ?_
  simp only [pu]
  go_wp2_with fail
  go_ret
  exact ⟨rfl, rfl⟩
/-- A byte of a slice, its load. -/
theorem idx_u8 (b off n c k : Nat) (hk : k < n) (V : World) (ρ : Operand → Value) (o : Oper) {x y : Operand} (ho : o.op = .indexAddr 29 x y) (hx : ρ x = .slice (some ⟨b, off, none⟩) n c) (hy : ρ y = .int .i64 k) : (execOp ρ o).run Try.prog V = .ok (.value (.pointer (some ⟨b, off + k, none⟩))) V := by
 have hs : (sizeOf (Try.prog.elem 29)).run Try.prog V = .ok 1 V := by kernel_rfl
 have hlm : (k : Int) < (n : Int) := by omega
 unfold execOp
 simp only [ho, hx, hy]
 go_simp
theorem q_name_no {s : ByteArray} (h : s.size = 0 ∨ 20 < s.size) : isName (nums s) = false := by
 unfold isName
 rw [nums_len]
 rcases h with h | h
 ·rw [h]; simp
 ·rw [show decide (s.size ≤ 20) = false from decide_eq_false (by omega)]; simp
set_option maxRecDepth 100000 in
set_option maxHeartbeats 8000000 in
theorem q_isname (s : ByteArray) (w : World) : Calls Try.prog 48 #[.string s] w fun e w' => e = .returned (.bool (isName (nums s))) ∧ Below w.heap.size w w' := by
 have HNO := Lib.hid (@q_name_no s)
 obtain ⟨n, hn⟩ : ∃ n, s.size = n := ⟨_, rfl⟩
 rw [hn] at HNO
 rcases (show n = 0 ∨ 20 < n ∨ (1 ≤ n ∧ n ≤ 20) by omega) with hc | hc | hc
 ·skip
  rw [HNO.out (.inl hc)]
  clear HNO
  go_enter Try.func48, Try.ntmps48
  go_upto_region 1 with fail
  refine wl <| gz1 (.string s) <| gzv (.int .i64 n) (by rw [← hn]; kernel_rfl) <| gzb (lss_n rfl (n) (1) dT) <| gz5 (.bool true) undef undef undef (.bool true) <| wn ?_
  simp only [pu]
  go_upto_region 2 with fail
  refine wl <| gz1 (.bool false) <| wn ?_
  simp only [pu]
  go_wp2_with fail
  go_ret
  exact ⟨rfl, Below.refl _ _⟩
 ·skip
  rw [HNO.out (.inr hc)]
  clear HNO
  go_enter Try.func48, Try.ntmps48
  go_upto_region 1 with fail
  refine wl <| gz1 (.string s) <| gzv (.int .i64 n) (by rw [← hn]; kernel_rfl) <| gzb (lss_n rfl (n) (1) dF) <| gz2 (.bool false) (.string s) <| gzv (.int .i64 n) (by rw [← hn]; kernel_rfl) <|
   gzb (gtr_n rfl (n) (20) dT) <| gz1 (.bool true) <| wn ?_
  simp only [pu]
  go_upto_region 2 with fail
  refine wl <| gz1 (.bool false) <| wn ?_
  simp only [pu]
  go_wp2_with fail
  go_ret
  exact ⟨rfl, Below.refl _ _⟩
 ·skip
  obtain ⟨hbw, hsl, hsz⟩ := conv_world w s (grownCap w s.size 0 5)
  have CV := fun (ρ : Operand → Value) (o : Oper) (x : Operand) ho hx => conv_s (ρ := ρ) (o := o) (x := x) ho s hx w
  generalize grownCap w s.size 0 5 = d at *
  generalize Lib.bytesWorld w 5 s = W at *
  obtain ⟨q, hq⟩ : ∃ q, w.heap.size = q := ⟨_, rfl⟩
  have HB := Lib.hid hbw
  rw [hq] at CV hsl
  rw [hn] at CV
  have HL := Lib.hid (nums_len s)
  obtain ⟨L, hL⟩ : ∃ L, nums s = L := ⟨_, rfl⟩
  rw [hL] at HL hsl ⊢
  have HS := Lib.hid hsl
  have HALL := Lib.hid (fun i (h : i < L.length) => all_no h)
  have HYES := Lib.hid (@all_yes L)
  clear hbw hsl hsz HNO hL
  go_enter Try.func48, Try.ntmps48
  go_upto_region 1 with fail
  refine wl <| gz1 (.string s) <| gzv (.int .i64 n) (by rw [← hn]; kernel_rfl) <| gzb (lss_n rfl (n) (1) dF) <| gz2 (.bool false) (.string s) <| gzv (.int .i64 n) (by rw [← hn]; kernel_rfl) <|
   gzb (gtr_n rfl (n) (20) dF) <| gz1 (.bool false) <| wn ?_
  simp only [pu]
  go_upto_region 3 with fail
  refine wl <| gz1 (.string s) ?_
  simp only [pu]
  refine gw_new (by kernel_rfl) (some 14) rfl (.slice (some ⟨q, 0, none⟩) n d) W (CV _ _ _ rfl (by kernel_rfl)) ?_
  simp only [pu]
  refine gz2 (.int .i64 n) (.int .i64 0) <| wn ?_
  simp only [pu]
  clear CV
  go_wp2_with fail
  go_loopg [16] n (fun gg s16 wx => ∃ i : Nat, s16 = .int .i64 i ∧ i ≤ n ∧ (∀ j, j < i → nmB (L.getD j 0) = true) ∧ wx = W ∧ n - i = gg)
  case atStart => exact ⟨0, rfl, by omega, fun j hj => by omega, rfl, by omega⟩
  case round =>
   obtain ⟨i, rfl, hi, hyes, rfl, hg⟩ := hrel
   by_cases hlt : i < n
   ·skip
    have HG : Hid (n - (i + 1) = gk - 1 ∧ 0 < gk ∧ i + 1 ≤ n) := Lib.hid ⟨by omega, by omega, by omega⟩
    have hil : i < L.length := by rw [HL.out, hn]; omega
    obtain ⟨b, off, e1, -, hcell⟩ := sl_at HS.out hil
    simp only [Option.some.injEq, Addr.mk.injEq, and_true] at e1
    obtain ⟨rfl, rfl⟩ := e1
    have hno := HALL.out i hil
    obtain ⟨c, hc⟩ : ∃ c, L.getD i 0 = c := ⟨_, rfl⟩
    rw [hc] at hcell hno
    have HYS : Hid (nmB c = true → ∀ j, j < i + 1 → nmB (L.getD j 0) = true) := Lib.hid fun hb j hj => by
     by_cases e : j = i
     ·rw [e, hc]; exact hb
     ·exact hyes j (by omega)
    have HNE : Hid (nmB c = false → isName L = false) := Lib.hid hno
    have CI := q_inname c wr
    clear hc hyes hg hno hil
    generalize nmB c = tb at *
    go_upto_region 4 with fail
    refine wl <| gzb (lss_n rfl (i) (n) dT) <| wn ?_
    simp only [pu]
    go_upto_region 5 with fail
    refine wl <| gzv (.pointer (some ⟨q, 0 + i, none⟩)) (idx_u8 q 0 n d i hlt _ _ _ rfl (by kernel_rfl) (by kernel_rfl)) <| gzl rfl ⟨q, 0 + i, none⟩ (.int .u8 c) (load_cell hcell (by kernel_rfl)) <| gz1 (.int .u8 c) <| wn ?_
    simp only [pu]
    go_upto_region 6 with fail
    cases tb
    ·skip
     refine wl <| gz1 (.int .u8 c) <| gzc (.bool false) (fun w' => wr = w') (CI) (fun V9 hV9 => ?_)
     subst hV9
     simp only [pu]
     refine gz1 (.bool true) <| wn ?_
     simp only [pu]
     have HE := Lib.hid (HNE.out rfl)
     clear HNE HYS CI hcell
     go_upto_region 7 with fail
     refine wl <| gz1 (.bool false) <| wn ?_
     simp only [pu]
     go_wp2_with fail
     go_ret
     rw [HE.out]
     exact ⟨rfl, HB.out⟩
    ·skip
     refine wl <| gz1 (.int .u8 c) <| gzc (.bool true) (fun w' => wr = w') (CI) (fun V9 hV9 => ?_)
     subst hV9
     simp only [pu]
     refine gz1 (.bool false) <| wn ?_
     simp only [pu]
     have HY2 := Lib.hid (HYS.out rfl)
     clear HNE HYS CI hcell
     go_upto_region 8 with fail
     refine wl <| gzw (.int .i64 (i + 1 : Nat)) (add_nat rfl i 1 (by omega)) <| gz1 (.int .i64 (i + 1 : Nat)) <| wn ?_
     simp only [pu]
     go_wp2_with fail
     go_roundg (gk - 1)
     case measure => have := HG.out; omega
     case rel => exact ⟨i + 1, rfl, HG.out.2.2, HY2.out, rfl, HG.out.1⟩
   ·skip
    have hall := HYES.out (fun j hj => hyes j (by rw [HL.out, hn] at hj; omega))
    have HV : Hid (isName L = true) := Lib.hid (by unfold isName; rw [hall, HL.out, hn, decide_eq_true hc.1, decide_eq_true hc.2]; rfl)
    clear hyes hall hg HALL HYES
    go_upto_region 4 with fail
    refine wl <| gzb (lss_n rfl (i) (n) dF) <| wn ?_
    simp only [pu]
    go_upto_region 9 with fail
    refine wl <| gz1 (.bool true) <| wn ?_
    simp only [pu]
    go_wp2_with fail
    go_ret
    rw [HV.out]
    exact ⟨rfl, HB.out⟩
end Go.Proofs.Ytglglhcnofbagaa
