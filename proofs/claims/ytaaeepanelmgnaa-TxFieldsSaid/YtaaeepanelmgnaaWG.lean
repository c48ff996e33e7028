/-
  The encoding of fields and messages: the functions and their reference, in one text.
-/
import Derived.Test.YtaaeepanelmgnaaVC
import Derived.Lib.AppendZeros
import Derived.Deep.Onto
import Derived.Deep.RegionHeld3
import Derived.Lib.LazyBuf
import Derived.Deep.QuietTactic
import Derived.BigQuiet
import Derived.Lib.SlBytesConst
import Derived.Lib.SmallJoins
namespace Go.Proofs.Ytaaeepanelmgnaa
set_option maxRecDepth 100000
open Go

/-- A field. -/
structure Fld where
  num : Int
  kind : Int
  val : Int
  bytes : List Int

/-- The number behind the tag. -/
def secI (kind val : Int) (n : Nat) : Int := if kind = 2 then (n : Int) else val
/-- The field is valid: by its number, its kind, its value and the number of its bytes. -/
def Vfi (num kind val : Int) (n : Nat) : Prop := 1 ≤ num ∧ num ≤ 536870911 ∧ ((kind = 0 ∧ n = 0) ∨ (kind = 2 ∧ val = 0))
/-- The encoding of a field. -/
def encI (num kind val : Int) (B : List Int) : List Int := Enc (8 * num + kind) ++ (Enc (secI kind val B.length) ++ B)
def encF (f : Fld) : List Int := encI f.num f.kind f.val f.bytes
/-- A valid field whose value has 64 bits and whose bytes are bytes, not too many. -/
def Vf (f : Fld) : Prop := Vfi f.num f.kind f.val f.bytes.length ∧ (0 ≤ f.val ∧ f.val ≤ 18446744073709551615) ∧ (∀ x, x ∈ f.bytes → 0 ≤ x ∧ x ≤ 255) ∧ f.bytes.length ≤ 1000000

def zeroF : Fld := ⟨0, 0, 0, []⟩
/-- What is read as one field at the beginning of L: the field, its size, the error. -/
def onef (L : List Int) : Fld × Int × Int :=
  if (rd 0 0 L).2.2 ≠ 0 then (zeroF, 0, (rd 0 0 L).2.2) else
  if (rd 0 0 L).1 / 8 < 1 ∨ 536870911 < (rd 0 0 L).1 / 8 ∨ ((rd 0 0 L).1 % 8 ≠ 0 ∧ (rd 0 0 L).1 % 8 ≠ 2) then (zeroF, 0, 4) else
  if (rd 0 0 (L.drop (rd 0 0 L).2.1.toNat)).2.2 ≠ 0 then (zeroF, 0, (rd 0 0 (L.drop (rd 0 0 L).2.1.toNat)).2.2) else
  if (rd 0 0 L).1 % 8 = 0 then (⟨(rd 0 0 L).1 / 8, 0, (rd 0 0 (L.drop (rd 0 0 L).2.1.toNat)).1, []⟩, (rd 0 0 L).2.1 + (rd 0 0 (L.drop (rd 0 0 L).2.1.toNat)).2.1, 0) else
  if ((L.drop ((rd 0 0 L).2.1.toNat + (rd 0 0 (L.drop (rd 0 0 L).2.1.toNat)).2.1.toNat)).length : Int) < (rd 0 0 (L.drop (rd 0 0 L).2.1.toNat)).1 then (zeroF, 0, 5) else
  (⟨(rd 0 0 L).1 / 8, 2, 0, (L.drop ((rd 0 0 L).2.1.toNat + (rd 0 0 (L.drop (rd 0 0 L).2.1.toNat)).2.1.toNat)).take (rd 0 0 (L.drop (rd 0 0 L).2.1.toNat)).1.toNat⟩,
    (rd 0 0 L).2.1 + (rd 0 0 (L.drop (rd 0 0 L).2.1.toNat)).2.1 + (rd 0 0 (L.drop (rd 0 0 L).2.1.toNat)).1, 0)

/-- The tag's number and kind are those of a field. -/
def goodT (t : Int) : Prop := 1 ≤ t / 8 ∧ t / 8 ≤ 536870911 ∧ (t % 8 = 0 ∨ t % 8 = 2)

theorem one_tag {L : List Int} {a s e : Int} (h : rd 0 0 L = (a, s, e)) (he : e ≠ 0) : onef L = (zeroF, 0, e) := by
  unfold onef; rw [h]; rw [if_pos he]
theorem one_bad {L : List Int} {t s : Int} (h : rd 0 0 L = (t, s, 0)) (hb : ¬ goodT t) : onef L = (zeroF, 0, 4) := by
  unfold onef; rw [h]; rw [if_neg (by simp), if_pos]
  unfold goodT at hb
  simp only
  omega
theorem one_len {L : List Int} {t a s e : Int} {h : Nat} (h1 : rd 0 0 L = (t, (h : Int), 0)) (hg : goodT t) (h2 : rd 0 0 (L.drop h) = (a, s, e)) (he : e ≠ 0) : onef L = (zeroF, 0, e) := by
  unfold onef; rw [h1]; simp only [Int.toNat_natCast]; rw [h2]
  unfold goodT at hg
  rw [if_neg (by simp), if_neg (by omega), if_pos he]
theorem one_var {L : List Int} {t n : Int} {h k : Nat} (h1 : rd 0 0 L = (t, (h : Int), 0)) (hg : goodT t) (h2 : rd 0 0 (L.drop h) = (n, (k : Int), 0)) (h0 : t % 8 = 0) : onef L = (⟨t / 8, 0, n, []⟩, ((h + k : Nat) : Int), 0) := by
  unfold onef; rw [h1]; simp only [Int.toNat_natCast]; rw [h2]
  unfold goodT at hg
  rw [if_neg (by simp), if_neg (by omega), if_neg (by simp), if_pos h0]
  simp
theorem one_short {L : List Int} {t n : Int} {h k : Nat} (h1 : rd 0 0 L = (t, (h : Int), 0)) (hg : goodT t) (h2 : rd 0 0 (L.drop h) = (n, (k : Int), 0)) (h0 : t % 8 = 2) (hs : ((L.drop (h + k)).length : Int) < n) : onef L = (zeroF, 0, 5) := by
  unfold onef; rw [h1]; simp only [Int.toNat_natCast]; rw [h2]
  unfold goodT at hg
  rw [if_neg (by simp), if_neg (by omega), if_neg (by simp), if_neg (by omega), if_pos (by simpa using hs)]
theorem one_bytes {L : List Int} {t : Int} {n h k : Nat} (h1 : rd 0 0 L = (t, (h : Int), 0)) (hg : goodT t) (h2 : rd 0 0 (L.drop h) = ((n : Int), (k : Int), 0)) (h0 : t % 8 = 2) (hs : n ≤ (L.drop (h + k)).length) :
    onef L = (⟨t / 8, 2, 0, (L.drop (h + k)).take n⟩, ((h + k + n : Nat) : Int), 0) := by
  unfold onef; rw [h1]; simp only [Int.toNat_natCast]; rw [h2]
  unfold goodT at hg
  rw [if_neg (by simp), if_neg (by omega), if_neg (by simp), if_neg (by omega), if_neg (by simp only [Int.toNat_natCast]; omega)]
  simp

theorem drop_bytes {L : List Int} (hl : ∀ x, x ∈ L → 0 ≤ x ∧ x ≤ 255) (k : Nat) : ∀ x, x ∈ L.drop k → 0 ≤ x ∧ x ≤ 255 := fun x hx => hl x (List.mem_of_mem_drop hx)
theorem take_bytes {L : List Int} (hl : ∀ x, x ∈ L → 0 ≤ x ∧ x ≤ 255) (k : Nat) : ∀ x, x ∈ L.take k → 0 ≤ x ∧ x ≤ 255 := fun x hx => hl x (List.mem_of_mem_take hx)

theorem trip {r : Int × Int × Int} (h1 : r.1 = 0) (h2 : r.2.1 = 0) : r = (0, 0, r.2.2) := by
  obtain ⟨a, b, c⟩ := r
  simp only at h1 h2
  rw [h1, h2]

/-- The ways of reading one field. -/
theorem one_cases (L : List Int) (hl : ∀ x, x ∈ L → 0 ≤ x ∧ x ≤ 255) :
    (∃ e, rd 0 0 L = (0, 0, e) ∧ e ≠ 0) ∨
    ∃ (t : Int) (h : Nat), 0 ≤ t ∧ t ≤ 18446744073709551615 ∧ rd 0 0 L = (t, (h : Int), 0) ∧ 0 < h ∧ h ≤ 10 ∧ h ≤ L.length ∧ Enc t = L.take h ∧ (Enc t).length = h ∧
      (¬ goodT t ∨ (goodT t ∧
        ((∃ e, rd 0 0 (L.drop h) = (0, 0, e) ∧ e ≠ 0) ∨
         ∃ (n k : Nat), (n : Int) ≤ 18446744073709551615 ∧ rd 0 0 (L.drop h) = ((n : Int), (k : Int), 0) ∧ 0 < k ∧ k ≤ 10 ∧ h + k ≤ L.length ∧ Enc n = (L.drop h).take k ∧ (Enc (n : Int)).length = k))) := by
  rcases rd_Inv L hl with ⟨h1, h2, h3⟩ | ⟨t, ht0, ht1, hr, hle, htk⟩
  · refine .inl ⟨(rd 0 0 L).2.2, ?_, h3⟩
    exact trip h1 h2
  · refine .inr ⟨t, (Enc t).length, ht0, ht1, hr, (Enc_len t).1, (Enc_len t).2, hle, htk, rfl, ?_⟩
    by_cases hg : goodT t
    · refine .inr ⟨hg, ?_⟩
      rcases rd_Inv (L.drop (Enc t).length) (drop_bytes hl _) with ⟨h1, h2, h3⟩ | ⟨n, hn0, hn1, hr2, hle2, htk2⟩
      · refine .inl ⟨(rd 0 0 (L.drop (Enc t).length)).2.2, ?_, h3⟩
        exact trip h1 h2
      · obtain ⟨N, rfl⟩ := Int.eq_ofNat_of_zero_le hn0
        rw [List.length_drop] at hle2
        exact .inr ⟨N, (Enc (N : Int)).length, hn1, hr2, (Enc_len _).1, (Enc_len _).2, by omega, htk2, rfl⟩
    · exact .inl hg

/-- One field: the field, or the error. -/
theorem one_inv (L : List Int) (hl : ∀ x, x ∈ L → 0 ≤ x ∧ x ≤ 255) (hL : L.length ≤ 1000000) :
    (∃ e, onef L = (zeroF, 0, e) ∧ e ≠ 0) ∨ ∃ f, Vf f ∧ onef L = (f, ((encF f).length : Int), 0) ∧ (encF f).length ≤ L.length ∧ L = encF f ++ L.drop (encF f).length := by
  rcases one_cases L hl with ⟨e, h, he⟩ | ⟨t, h, ht0, ht1, hr, h0, h10, hle, htk, hlen, hc⟩
  · exact .inl ⟨e, one_tag h he, he⟩
  rcases hc with hb | ⟨hg, hc⟩
  · exact .inl ⟨4, one_bad hr hb, by omega⟩
  rcases hc with ⟨e, h2, he⟩ | ⟨n, k, hn, h2, hk0, hk10, hle2, htk2, hlen2⟩
  · exact .inl ⟨e, one_len hr hg h2 he, he⟩
  have hL1 : L = Enc t ++ (Enc (n : Int) ++ L.drop (h + k)) := by
    rw [htk, htk2, ← List.drop_drop, List.take_append_drop, List.take_append_drop]
  have hg' := hg
  unfold goodT at hg'
  by_cases h8 : t % 8 = 0
  · have ht : 8 * (t / 8) + 0 = t := by omega
    have he : encF ⟨t / 8, 0, n, []⟩ = Enc t ++ Enc (n : Int) := by
      show Enc (8 * (t / 8) + 0) ++ (Enc (secI 0 n 0) ++ []) = _
      rw [ht, List.append_nil]; rfl
    have hl2 : (encF ⟨t / 8, 0, n, []⟩).length = h + k := by rw [he, List.length_append, hlen, hlen2]
    refine .inr ⟨⟨t / 8, 0, n, []⟩, ⟨⟨by simp only; omega, by simp only; omega, .inl ⟨rfl, rfl⟩⟩, ⟨by simp only; omega, hn⟩, by simp, by simp⟩, ?_, ?_, ?_⟩
    · rw [one_var hr hg h2 h8, hl2]
    · rw [hl2]; omega
    · rw [hl2, he, List.append_assoc]; exact hL1
  · have h82 : t % 8 = 2 := by omega
    by_cases hs : n ≤ (L.drop (h + k)).length
    · have hbl : ((L.drop (h + k)).take n).length = n := by rw [List.length_take]; omega
      have he : encF ⟨t / 8, 2, 0, (L.drop (h + k)).take n⟩ = Enc t ++ (Enc (n : Int) ++ (L.drop (h + k)).take n) := by
        show Enc (8 * (t / 8) + 2) ++ (Enc (secI 2 0 ((L.drop (h + k)).take n).length) ++ _) = _
        rw [hbl, show 8 * (t / 8) + 2 = t by omega]; rfl
      have hl2 : (encF ⟨t / 8, 2, 0, (L.drop (h + k)).take n⟩).length = h + k + n := by rw [he, List.length_append, List.length_append, hlen, hlen2, hbl, Nat.add_assoc]
      refine .inr ⟨⟨t / 8, 2, 0, (L.drop (h + k)).take n⟩, ⟨⟨by simp only; omega, by simp only; omega, .inr ⟨rfl, rfl⟩⟩, ⟨by simp only; omega, by simp only; omega⟩, take_bytes (drop_bytes hl _) _, ?_⟩, ?_, ?_, ?_⟩
      · simp only [hbl]; rw [List.length_drop] at hs; omega
      · rw [one_bytes hr hg h2 h82 hs, hl2]
      · rw [hl2]; rw [List.length_drop] at hs; omega
      · have hd : L.drop (h + k + n) = (L.drop (h + k)).drop n := by rw [List.drop_drop]
        rw [hl2, he, hd, List.append_assoc, List.append_assoc, List.take_append_drop]; exact hL1
    · exact .inl ⟨5, one_short hr hg h2 h82 (by omega), by omega⟩

theorem tag_bounds {f : Fld} (h : Vf f) : 0 ≤ 8 * f.num + f.kind ∧ 8 * f.num + f.kind ≤ 18446744073709551615 := by
  obtain ⟨⟨h1, h2, h3⟩, _⟩ := h
  omega
theorem sec_bounds {f : Fld} (h : Vf f) : 0 ≤ secI f.kind f.val f.bytes.length ∧ secI f.kind f.val f.bytes.length ≤ 18446744073709551615 := by
  obtain ⟨_, h1, _, h3⟩ := h
  unfold secI
  split <;> omega
/-- The encoding of a field is read, whatever follows. -/
theorem one_enc (f : Fld) (h : Vf f) (T : List Int) : onef (encF f ++ T) = (f, ((encF f).length : Int), 0) := by
  have tb := tag_bounds h
  have sb := sec_bounds h
  obtain ⟨⟨v1, v2, v3⟩, w1, w2, w3⟩ := h
  have e0 : encF f ++ T = Enc (8 * f.num + f.kind) ++ (Enc (secI f.kind f.val f.bytes.length) ++ (f.bytes ++ T)) := by simp [encF, encI]
  have r1 := rd_Enc _ tb.1 tb.2 (Enc (secI f.kind f.val f.bytes.length) ++ (f.bytes ++ T))
  have r2 := rd_Enc _ sb.1 sb.2 (f.bytes ++ T)
  rw [← e0] at r1
  have d1 : (encF f ++ T).drop (Enc (8 * f.num + f.kind)).length = Enc (secI f.kind f.val f.bytes.length) ++ (f.bytes ++ T) := by rw [e0, List.drop_left]
  rw [← d1] at r2
  have d2 : (encF f ++ T).drop ((Enc (8 * f.num + f.kind)).length + (Enc (secI f.kind f.val f.bytes.length)).length) = f.bytes ++ T := by rw [← List.drop_drop, d1, List.drop_left]
  have hg : goodT (8 * f.num + f.kind) := by unfold goodT; omega
  have hlen : (encF f).length = (Enc (8 * f.num + f.kind)).length + (Enc (secI f.kind f.val f.bytes.length)).length + f.bytes.length := by
    simp only [encF, encI, List.length_append]; omega
  rw [hlen]
  obtain ⟨num, kind, val, B⟩ := f
  simp only at *
  rcases v3 with ⟨rfl, v4⟩ | ⟨rfl, v4⟩
  · obtain rfl : B = [] := List.eq_nil_of_length_eq_zero v4
    rw [one_var r1 hg r2 (by omega), show (8 * num + 0) / 8 = num by omega]
    rfl
  · subst v4
    have hs : secI 2 0 B.length = (B.length : Int) := rfl
    rw [hs] at r2 d2 ⊢
    rw [one_bytes r1 hg r2 (by omega) (by rw [d2, List.length_append]; omega), d2, List.take_left, show (8 * num + 2) / 8 = num by omega]

/-- What is read as a message: the fields, the offset, the error. -/
def fldsG : Nat → List Fld → Nat → List Int → List Fld × Int × Int
  | 0, acc, _, _ => (acc, 0, 0)
  | f + 1, acc, i, L =>
    if L.length = 0 then (acc, 0, 0) else if 1024 ≤ acc.length then ([], (i : Int), 3) else
    if (onef L).2.2 ≠ 0 then ([], (i : Int), (onef L).2.2) else fldsG f (acc ++ [(onef L).1]) (i + (onef L).2.1.toNat) (L.drop (onef L).2.1.toNat)
def flds (L : List Int) : List Fld × Int × Int := fldsG (L.length + 1) [] 0 L

theorem flds_end {f : Nat} {acc : List Fld} {i : Nat} {L : List Int} (h : L.length = 0) : fldsG (f + 1) acc i L = (acc, 0, 0) := by rw [fldsG, if_pos h]
theorem flds_limit {f : Nat} {acc : List Fld} {i : Nat} {L : List Int} (h : ¬ L.length = 0) (h1 : 1024 ≤ acc.length) : fldsG (f + 1) acc i L = ([], (i : Int), 3) := by rw [fldsG, if_neg h, if_pos h1]
theorem flds_err {f : Nat} {acc : List Fld} {i : Nat} {L : List Int} {x : Fld} {s e : Int} (h : ¬ L.length = 0) (h1 : acc.length < 1024) (h2 : onef L = (x, s, e)) (he : e ≠ 0) : fldsG (f + 1) acc i L = ([], (i : Int), e) := by
  rw [fldsG, if_neg h, if_neg (by omega), h2, if_pos he]
theorem flds_next {f : Nat} {acc : List Fld} {i : Nat} {L : List Int} {x : Fld} {s : Nat} (h : ¬ L.length = 0) (h1 : acc.length < 1024) (h2 : onef L = (x, (s : Int), 0)) : fldsG (f + 1) acc i L = fldsG f (acc ++ [x]) (i + s) (L.drop s) := by
  rw [fldsG, if_neg h, if_neg (by omega), h2, if_neg (by simp)]
  simp

theorem encF_pos (f : Fld) : 2 ≤ (encF f).length := by
  have h1 := (Enc_len (8 * f.num + f.kind)).1
  have h2 := (Enc_len (secI f.kind f.val f.bytes.length)).1
  simp only [encF, encI, List.length_append]
  omega
theorem encF_le (f : Fld) : (encF f).length ≤ 20 + f.bytes.length := by
  have h1 := (Enc_len (8 * f.num + f.kind)).2
  have h2 := (Enc_len (secI f.kind f.val f.bytes.length)).2
  simp only [encF, encI, List.length_append]
  omega
theorem encF_bytes (f : Fld) (h : Vf f) : ∀ x, x ∈ encF f → 0 ≤ x ∧ x ≤ 255 := by
  intro x hx
  have tb := tag_bounds h
  have sb := sec_bounds h
  simp only [encF, encI, List.mem_append] at hx
  rcases hx with hx | hx | hx
  · exact Enc_bytes _ tb.1 tb.2 x hx
  · exact Enc_bytes _ sb.1 sb.2 x hx
  · exact h.2.2.1 x hx

/-- Fields that were written are read. -/
theorem flds_enc (F : List Fld) : ∀ (f : Nat) (acc : List Fld) (i : Nat), (∀ x, x ∈ F → Vf x) → acc.length + F.length ≤ 1024 → (F.flatMap encF).length < f → fldsG f acc i (F.flatMap encF) = (acc ++ F, 0, 0) := by
  induction F with
  | nil =>
    intro f acc i _ _ hf
    obtain ⟨g, rfl⟩ : ∃ g, f = g + 1 := ⟨f - 1, by omega⟩
    rw [flds_end (by simp)]
    simp
  | cons x F ih =>
    intro f acc i hv hn hf
    obtain ⟨g, rfl⟩ : ∃ g, f = g + 1 := ⟨f - 1, by omega⟩
    have hp := encF_pos x
    rw [List.flatMap_cons, List.length_append] at hf
    simp only [List.length_cons] at hn
    rw [List.flatMap_cons, flds_next (by rw [List.length_append]; omega) (by omega) (one_enc x (hv x (by simp)) _), List.drop_left, ih g _ _ (fun y hy => hv y (by simp [hy])) (by simp; omega) (by omega)]
    simp
/-- Too many fields. -/
theorem flds_many (F : List Fld) : ∀ (f : Nat) (acc : List Fld) (i : Nat), (∀ x, x ∈ F → Vf x) → acc.length ≤ 1024 → 1024 < acc.length + F.length → (F.flatMap encF).length < f →
    fldsG f acc i (F.flatMap encF) = ([], ((i + ((F.take (1024 - acc.length)).flatMap encF).length : Nat) : Int), 3) := by
  induction F with
  | nil => intro f acc i _ h1 h2; simp at h2; omega
  | cons x F ih =>
    intro f acc i hv h1 hn hf
    obtain ⟨g, rfl⟩ : ∃ g, f = g + 1 := ⟨f - 1, by omega⟩
    have hp := encF_pos x
    rw [List.flatMap_cons, List.length_append] at hf
    simp only [List.length_cons] at hn
    rw [List.flatMap_cons]
    by_cases h : acc.length = 1024
    · rw [flds_limit (by rw [List.length_append]; omega) (by omega), h]
      simp
    · obtain ⟨d, hd⟩ : ∃ d, 1024 - acc.length = d + 1 := ⟨1023 - acc.length, by omega⟩
      rw [flds_next (by rw [List.length_append]; omega) (by omega) (one_enc x (hv x (by simp)) _), List.drop_left, ih g _ _ (fun y hy => hv y (by simp [hy])) (by simp; omega) (by simp; omega) (by omega), hd, List.take_succ_cons,
        List.flatMap_cons, List.length_append, show 1024 - (acc.length + [x].length) = d by simp; omega]
      simp
      omega
/-- What is read as a message is written again as it is; an error has an offset within the bytes. -/
theorem flds_inv (f : Nat) : ∀ (acc : List Fld) (i : Nat) (L : List Int), (∀ x, x ∈ L → 0 ≤ x ∧ x ≤ 255) → L.length ≤ 1000000 → L.length < f →
    (∃ e j, fldsG f acc i L = ([], ((j : Nat) : Int), e) ∧ e ≠ 0 ∧ i ≤ j ∧ j < i + L.length) ∨ ∃ G, fldsG f acc i L = (acc ++ G, 0, 0) ∧ G.flatMap encF = L ∧ (∀ x, x ∈ G → Vf x) := by
  induction f with
  | zero => intro acc i L _ _ h; omega
  | succ f ih =>
    intro acc i L hl hL hf
    by_cases h0 : L.length = 0
    · exact .inr ⟨[], by rw [flds_end h0, List.append_nil], (List.eq_nil_of_length_eq_zero h0).symm, by simp⟩
    by_cases h1 : 1024 ≤ acc.length
    · exact .inl ⟨3, i, flds_limit h0 h1, by omega, by omega, by omega⟩
    rcases one_inv L hl hL with ⟨e, ho, he⟩ | ⟨x, hx, ho, hle, hL2⟩
    · exact .inl ⟨e, i, flds_err h0 (by omega) ho he, he, by omega, by omega⟩
    · have hp := encF_pos x
      rw [flds_next h0 (by omega) ho]
      have hd : (L.drop (encF x).length).length = L.length - (encF x).length := List.length_drop
      rcases ih (acc ++ [x]) (i + (encF x).length) (L.drop (encF x).length) (drop_bytes hl _) (by omega) (by omega) with ⟨e, j, h2, h3, h4, h5⟩ | ⟨G, h2, h3, h4⟩
      · exact .inl ⟨e, j, h2, h3, by omega, by omega⟩
      · refine .inr ⟨x :: G, by rw [h2]; simp, by rw [List.flatMap_cons, h3]; exact hL2.symm, ?_⟩
        intro y hy
        rcases List.mem_cons.1 hy with rfl | hy
        · exact hx
        · exact h4 y hy
end Go.Proofs.Ytaaeepanelmgnaa
namespace Go.Proofs.Ytaaeepanelmgnaa
set_option maxRecDepth 100000
open Go.RowKit

theorem info25 : (Try.prog.info? 54).map (fun i => (i.zero, i.size, i.bytes)) = some (some (.agg #[.int .i64 0, .int .i64 0, .int .u64 0, .slice none 0 0]), 4, 48) := by kernel_rfl
theorem info22 : (Try.prog.info? 39).map (fun i => (i.zero, i.size, i.bytes)) = some (some (.slice none 0 0), 1, 24) := by kernel_rfl

theorem getD_lt {α : Type} (l : List α) (k : Nat) (d : α) (h : k < l.length) : l.getD k d = l[k] := by rw [List.getD_eq_getElem?_getD, List.getElem?_eq_getElem h]; rfl

/-- A block of bytes that was just made. -/
theorem sl_new (w : World) (xs : List Int) (c : Nat) : Sl (w.alloc (.cells (xs.map (Value.int .u8)).toArray 5)) (some ⟨w.heap.size, 0, none⟩) c xs := by
  refine .inr ⟨_, rfl, fun k hk => ⟨_, _, rfl, ?_⟩⟩
  rw [cell_of_row _ w.heap.size (0 + k) _ 5 (0, 0) (heap_alloc_new w _), Nat.zero_add]
  simp [List.getD_eq_getElem?_getD, List.getElem?_eq_getElem hk]

theorem own_at {w : World} {B e s n c : Nat} {a : Option Addr} {xs : List Value} (h : w.ownsRow B e s (.slice a n c) n xs) (hn : 0 < n) : ∃ g, a = some ⟨g, 0, none⟩ ∧ B ≤ g ∧ g < w.heap.size := by
  rcases h.2 with ⟨_, h0⟩ | ⟨g, cap, cur, e, hb, hg, _⟩
  · omega
  · simp only [Value.slice.injEq] at e
    exact ⟨g, e.1, hb, (Array.getElem?_eq_some_iff.1 hg).1⟩
theorem own_base {w : World} {B B' e size n : Nat} {v : Value} {xs : List Value} (h : w.ownsRow B' e size v n xs) (hB : B ≤ B') : w.ownsRow B e size v n xs :=
  ⟨h.1, h.2.imp id (fun ⟨g, cap, cur, a, b, c⟩ => ⟨g, cap, cur, a, Nat.le_trans hB b, c⟩)⟩
theorem own_below {w w' : World} {B e size n : Nat} {v : Value} {xs : List Value} (h : w.ownsRow B e size v n xs) (hb : Below w.heap.size w w') : w'.ownsRow B e size v n xs := by
  refine ⟨h.1, ?_⟩
  rcases h.2 with hn | ⟨g, cap, cur, rfl, hg, hgg, rest⟩
  · exact .inl hn
  · exact .inr ⟨g, cap, cur, rfl, hg, by rw [hb.block g (Array.getElem?_eq_some_iff.1 hgg).1]; exact hgg, rest⟩
/-- Rows of different element types lie in different blocks. -/
theorem own_ne {w : World} {B B' e e' size size' n n' : Nat} {v v' : Value} {xs xs' : List Value} (h : w.ownsRow B e size v n xs) (h' : w.ownsRow B' e' size' v' n' xs') (hne : e ≠ e') : v.ownBlock = none ∨ v.ownBlock ≠ v'.ownBlock := by
  rcases h.2 with ⟨rfl, _⟩ | ⟨g, cap, cur, rfl, _, hgg, _⟩
  · exact .inl rfl
  · rcases h'.2 with ⟨rfl, _⟩ | ⟨g', cap', cur', rfl, _, hgg', _⟩
    · exact .inr (by simp [Value.ownBlock])
    · refine .inr fun he => ?_
      simp only [Value.ownBlock, Option.some.injEq] at he
      subst he
      rw [hgg] at hgg'
      simp only [Option.some.injEq, Obj.cells.injEq] at hgg'
      exact hne hgg'.2.1

theorem sl_take {w : World} {a : Option Addr} {c : Nat} {M : List Int} (h : Sl w a c M) (n : Nat) : Sl w a c (M.take n) := by
  rcases h with ⟨rfl, rfl, rfl⟩ | ⟨x, rfl, hx⟩
  · exact .inl ⟨rfl, rfl, by simp⟩
  · refine .inr ⟨x, rfl, fun k hk => ?_⟩
    rw [List.length_take] at hk
    obtain ⟨b, off, rfl, hc⟩ := hx k (by omega)
    refine ⟨b, off, rfl, ?_⟩
    rw [hc, List.getD_eq_getElem?_getD, List.getD_eq_getElem?_getD, List.getElem?_take, if_pos (by omega)]
theorem slice_to (kh : IntKind) (a : Option Addr) (n c k : Nat) (w : World) (h : k ≤ c) : (Instr.slice 39 (.slice a n c) none (some (.int kh (k : Int))) none).run Try.prog w = .ok (.slice a k c) w := by
  have hs : (sizeOf (Try.prog.elem 39)).run Try.prog w = .ok 1 w := by kernel_rfl
  have e := run_slice_h (P := Try.prog) w 39 a n c (by kernel_rfl) kh (k : Int) (by omega) (by omega)
  rw [e, hs]
  cases a <;> simp [sliced, Result.andThen, Addr.add]
/-- Where the rest of a slice begins. -/
def fromA (a : Option Addr) (c k : Nat) : Option Addr := if c = k then a else a.map (·.add k)
theorem slice_from (kl : IntKind) (a : Option Addr) (n c k : Nat) (w : World) (h : k ≤ n) : (Instr.slice 39 (.slice a n c) (some (.int kl (k : Int))) none none).run Try.prog w = .ok (.slice (fromA a c k) (n - k) (c - k)) w := by
  have hs : (sizeOf (Try.prog.elem 39)).run Try.prog w = .ok 1 w := by kernel_rfl
  have e := run_slice_l (P := Try.prog) w 39 a n c (by kernel_rfl) kl (k : Int) (by omega) (by omega)
  rw [e, hs]
  by_cases hk : c = k <;> cases a <;> simp [sliced, Result.andThen, fromA, hk]
/-- A part of a slice. -/
theorem slice_part (kl kh : IntKind) (a : Option Addr) (n c k m : Nat) (w : World) (h : k ≤ m) (h1 : m ≤ c) : (Instr.slice 39 (.slice a n c) (some (.int kl (k : Int))) (some (.int kh (m : Int))) none).run Try.prog w = .ok (.slice (fromA a c k) (m - k) (c - k)) w := by
  have hs : (sizeOf (Try.prog.elem 39)).run Try.prog w = .ok 1 w := by kernel_rfl
  have e := run_slice_lh (P := Try.prog) w 39 a n c (by kernel_rfl) kl kh (k : Int) (m : Int) (by omega) (by omega) (by omega)
  rw [e, hs]
  by_cases hk : c = k <;> cases a <;> simp [sliced, Result.andThen, fromA, hk]
theorem sl_from {w : World} {a : Option Addr} {c : Nat} {L : List Int} (h : Sl w a c L) (k : Nat) (hc : L.length ≤ c) : Sl w (fromA a c k) (c - k) (L.drop k) := by
  rcases h with ⟨rfl, rfl, rfl⟩ | ⟨x, rfl, hx⟩
  · exact .inl ⟨by simp [fromA], by omega, by simp⟩
  · by_cases hk : c = k
    · refine .inr ⟨x, by simp [fromA, hk], fun j hj => ?_⟩
      rw [List.length_drop] at hj
      omega
    · refine .inr ⟨x.add k, by simp [fromA, hk], fun j hj => ?_⟩
      rw [List.length_drop] at hj
      obtain ⟨b, off, rfl, h1⟩ := hx (k + j) (by omega)
      refine ⟨b, off + k, by rw [Go.WideShapes.add_plain], ?_⟩
      rw [Nat.add_assoc, h1, List.getD_eq_getElem?_getD, List.getD_eq_getElem?_getD, List.getElem?_drop]

/-- A row that is nil or was made by the call, as bytes. -/
def Own (w : World) (B : Nat) (v : Value) (L : List Int) : Prop := w.ownsRow B 5 1 v L.length (L.map (Value.int .u8))
theorem Own.sl {w : World} {B : Nat} {v : Value} {L : List Int} (h : Own w B v L) : ∃ a c, v = .slice a L.length c ∧ Sl w a c L ∧ L.length ≤ c := by
  obtain ⟨a, c, h1, h2, _, h3⟩ := sl_own h
  exact ⟨a, c, h1, h2, h3⟩
theorem Own.below {w w' : World} {B : Nat} {v : Value} {L : List Int} (h : Own w B v L) (hb : Below w.heap.size w w') : Own w' B v L := own_below h hb
theorem Own.base {w : World} {B B' : Nat} {v : Value} {L : List Int} (h : Own w B' v L) (hB : B ≤ B') : Own w B v L := World.ownsRow.mono h hB
theorem Own.nil (w : World) (B : Nat) : Own w B (.slice none 0 0) [] := World.ownsRow_nil _ _ _ _
end Go.Proofs.Ytaaeepanelmgnaa
namespace Go.Proofs.Ytaaeepanelmgnaa
set_option maxRecDepth 100000
open Go.RowKit

/-- Is the field valid? -/
def vldB (num kind val : Int) (n : Nat) : Bool := decide (1 ≤ num ∧ num ≤ 536870911 ∧ ((kind = 0 ∧ n = 0) ∨ (kind = 2 ∧ val = 0)))
theorem vldB_true {num kind val : Int} {n : Nat} (h : Vfi num kind val n) : vldB num kind val n = true := by unfold vldB Vfi at *; exact decide_eq_true h
theorem vldB_false {num kind val : Int} {n : Nat} (h : ¬ Vfi num kind val n) : vldB num kind val n = false := by unfold vldB Vfi at *; exact decide_eq_false h
theorem bret {num kind val : Int} {n : Nat} {b : Bool} (h : b = true ↔ Vfi num kind val n) : Ending.returned (.bool b) = .returned (.bool (vldB num kind val n)) := by
  by_cases hv : Vfi num kind val n
  · rw [vldB_true hv, h.2 hv]
  · rw [vldB_false hv]
    cases b with
    | false => rfl
    | true => exact absurd (h.1 rfl) hv

set_option maxHeartbeats 1000000 in
theorem code_valid (num kind val : Int) (a : Option Addr) (n c : Nat) (w : World) :
    Calls Try.prog 63 #[.agg #[.int .i64 num, .int .i64 kind, .int .u64 val, .slice a n c]] w fun e w' => e = .returned (.bool (vldB num kind val n)) ∧ Below w.heap.size w w' := by
  have hb := (Below.refl w.heap.size w).alloc (Nat.le_refl _) (.cells #[.int .i64 num, .int .i64 kind, .int .u64 val, .slice a n c] 54)
  go_enter Try.func63, Try.ntmps63
  go_wp2
  all_goals go_ret
  all_goals refine ⟨bret ?_, (Below.refl _ _).alloc (Nat.le_refl _) _⟩
  all_goals clear hb
  all_goals unfold Vfi
  all_goals simp at *
  all_goals omega
set_option maxHeartbeats 1000000 in
theorem ref_right (num kind val : Int) (a : Option Addr) (n c : Nat) (w : World) :
    Calls Try.prog 57 #[.agg #[.int .i64 num, .int .i64 kind, .int .u64 val, .slice a n c]] w fun e w' => e = .returned (.bool (vldB num kind val n)) ∧ Below w.heap.size w w' := by
  have hb := (Below.refl w.heap.size w).alloc (Nat.le_refl _) (.cells #[.int .i64 num, .int .i64 kind, .int .u64 val, .slice a n c] 54)
  go_enter Try.func57, Try.ntmps57
  go_wp2
  all_goals go_ret
  all_goals refine ⟨bret ?_, (Below.refl _ _).alloc (Nat.le_refl _) _⟩
  all_goals clear hb
  all_goals unfold Vfi
  all_goals simp at *
  all_goals omega

set_option maxHeartbeats 1000000 in
theorem code_tag (num kind val : Int) (a : Option Addr) (n c : Nat) (w : World) (h0 : 1 ≤ num) (h1 : num ≤ 536870911) (h2 : kind = 0 ∨ kind = 2) :
    Calls Try.prog 65 #[.agg #[.int .i64 num, .int .i64 kind, .int .u64 val, .slice a n c]] w fun e w' => e = .returned (.int .u64 (8 * num + kind)) ∧ Below w.heap.size w w' := by
  have hb := (Below.refl w.heap.size w).alloc (Nat.le_refl _) (.cells #[.int .i64 num, .int .i64 kind, .int .u64 val, .slice a n c] 54)
  have h3 : 0 ≤ kind := by omega
  have h4 : kind ≤ 2 := by omega
  clear h2
  go_enter Try.func65, Try.ntmps65
  go_wp2
  go_ret
  exact ⟨rfl, hb⟩
set_option maxHeartbeats 1000000 in
theorem code_second (num kind val : Int) (a : Option Addr) (n c : Nat) (w : World) (hn : n ≤ 1000000) :
    Calls Try.prog 66 #[.agg #[.int .i64 num, .int .i64 kind, .int .u64 val, .slice a n c]] w fun e w' => e = .returned (.int .u64 (secI kind val n)) ∧ Below w.heap.size w w' := by
  have hb := (Below.refl w.heap.size w).alloc (Nat.le_refl _) (.cells #[.int .i64 num, .int .i64 kind, .int .u64 val, .slice a n c] 54)
  by_cases h : kind = 2
  · subst h
    go_enter Try.func66, Try.ntmps66
    go_wp2
    go_ret
    exact ⟨rfl, hb⟩
  · have h2 : (kind == 2) = false := by simpa using h
    have hs : secI kind val n = val := by unfold secI; rw [if_neg h]
    have HS := Lib.hid hs
    clear hs h
    go_enter Try.func66, Try.ntmps66
    go_wp2
    go_ret
    exact ⟨by rw [HS.out]; rfl, hb⟩

/-- What a call of Clone makes. -/
theorem clone_any (a : Option Addr) (c : Nat) (L : List Int) (w : World) (hL : L.length ≤ 1000000) (hr : Sl w a c L) :
    Calls Try.prog 70 #[.slice a L.length c] w fun e w' => ∃ v, e = .returned v ∧ Own w' w.heap.size v L ∧ Below w.heap.size w w' := by
  obtain ⟨i0, hi, hz0, hz1, hz2⟩ := info_parts info5
  have HI := Lib.hid hi
  have HZ0 := Lib.hid hz0
  have HZ1 := Lib.hid hz1
  have HZ2 := Lib.hid hz2
  have HR1 := Lib.hid (sl_below hr ((Below.refl w.heap.size w).alloc (Nat.le_refl _) (.cells #[] 5)))
  clear hi hz0 hz1 hz2
  have hnil := fun (w : World) (a : Option Addr) (n c : Nat) => run_eql_slice_nil (P := Try.prog) w 39 5 a n c Try.underlying39
  rcases a with _ | x
  · have hn : L = [] ∧ c = 0 := by
      rcases hr with ⟨_, h1, h2⟩ | ⟨x, hx, _⟩
      · exact ⟨h2, h1⟩
      · cases hx
    obtain ⟨rfl, rfl⟩ := hn
    clear HR1 hr
    go_enter Try.func70, Try.ntmps70
    go_wp2
    go_ret
    exact ⟨_, rfl, Own.nil _ _, Below.refl _ _⟩
  · clear hr
    go_enter Try.func70, Try.ntmps70
    go_wp2_with (at_builtin; refine append_src rfl _ _ 39 rfl w.heap.size i0 Try.underlying39 HI.out HZ0.out HZ1.out HZ2.out _ 0 [] rfl (own_empty w) (some x) L.length c L rfl rfl HR1.out ?c1 ?c2 ?_)
    case c1 => omega
    case c2 => simp
    intro v' w1 hown hgrow
    have hbel := after_append (w0 := w) (Nat.le_refl _) (by simp) (own_empty w) ((Below.refl _ w).alloc (Nat.le_refl _) _) hgrow
    have HO : Hid (Own w1 w.heap.size v' L) := by
      show w1.ownsRow _ _ _ _ _ _
      simpa using hown
    clear hgrow hown HR1
    go_wp2
    go_ret
    exact ⟨_, rfl, HO.out, hbel⟩
end Go.Proofs.Ytaaeepanelmgnaa
namespace Go.Proofs.Ytaaeepanelmgnaa
set_option maxRecDepth 100000
open Go.RowKit

set_option maxHeartbeats 1000000 in
theorem grow_nil (n : Nat) (w : World) (h0 : 0 < n) (h1 : n ≤ 100000000) :
    Calls Try.prog 72 #[.slice none 0 0, .int .i64 (n : Int)] w fun e w' => ∃ v, e = .returned v ∧ Own w' w.heap.size v [] ∧ Below w.heap.size w w' := by
  obtain ⟨i0, hi, hz0, hz1, hz2⟩ := info_parts info5
  have hrun := Lib.run_append_nil_zeros (P := Try.prog) w 39 3 39 5 i0 (.int .u8 0) .i64 .i64 Try.underlying39 Try.underlying3 hi hz0 n h0 (by rw [hz1]; omega) (by omega) (by rw [hz2]; omega)
  have hcap := grownCap_ge w n 0 5
  have hmax := grownCap_le_maxLen w n 0 5 (by unfold maxLen; omega)
  have hown : Own (w.drew.alloc (.cells (Builtin.zeroCells (Value.int .u8 0).cells n ++ Builtin.zeroCells (Value.int .u8 0).cells (grownCap w n 0 5 - n)) 5)) w.heap.size (.slice (some ⟨w.heap.size, 0, none⟩) 0 (grownCap w n 0 5)) [] :=
    ⟨rfl, .inr ⟨w.heap.size, _, _, rfl, Nat.le_refl _, heap_alloc_new w.drew _, Nat.zero_le _, hmax, by simp [size_zeroCells, Value.cells]; omega, by simp⟩⟩
  have hbel : Below w.heap.size w (w.drew.alloc (.cells (Builtin.zeroCells (Value.int .u8 0).cells n ++ Builtin.zeroCells (Value.int .u8 0).cells (grownCap w n 0 5 - n)) 5)) := (Below.refl _ w).drew.alloc (Nat.le_refl _) _
  clear hi hz0 hz1 hz2
  have HR := Lib.hid hrun
  clear hrun
  generalize (w.drew.alloc (.cells (Builtin.zeroCells (Value.int .u8 0).cells n ++ Builtin.zeroCells (Value.int .u8 0).cells (grownCap w n 0 5 - n)) 5)) = w1 at *
  generalize grownCap w n 0 5 = cp at *
  go_enter Try.func72, Try.ntmps72
  go_wp2_with (at_builtin; refine Lib.wpList_append_run _ rfl _ _ _ _ rfl _ _ rfl rfl _ _ HR.out ?_)
  go_wp2
  go_ret
  exact ⟨_, rfl, hown, hbel⟩

/-- A row of slices of bytes at block g. -/
def Sls (w : World) (g : Nat) (Ss : List (Option Addr × Nat × List Int)) : Prop :=
  ∀ k, k < Ss.length → w.cell? ⟨g, k, none⟩ = some (.slice (Ss.getD k (none, 0, [])).1 (Ss.getD k (none, 0, [])).2.2.length (Ss.getD k (none, 0, [])).2.1) ∧ Sl w (Ss.getD k (none, 0, [])).1 (Ss.getD k (none, 0, [])).2.1 (Ss.getD k (none, 0, [])).2.2
/-- All their bytes, one behind the other. -/
def flat (Ss : List (Option Addr × Nat × List Int)) : List Int := Ss.flatMap (·.2.2)
theorem flat_take (Ss : List (Option Addr × Nat × List Int)) (k : Nat) (h : k < Ss.length) : flat (Ss.take (k + 1)) = flat (Ss.take k) ++ (Ss.getD k (none, 0, [])).2.2 := by
  rw [getD_lt _ _ _ h, List.take_succ_eq_append_getElem h]
  simp only [flat, List.flatMap_append, List.flatMap_cons, List.flatMap_nil, List.append_nil]
theorem flat_le (Ss : List (Option Addr × Nat × List Int)) (k : Nat) : (flat (Ss.take k)).length ≤ (flat Ss).length := by
  have : flat Ss = flat (Ss.take k) ++ flat (Ss.drop k) := by
    unfold flat
    rw [← List.flatMap_append, List.take_append_drop]
  rw [this, List.length_append]
  omega

set_option maxHeartbeats 2000000 in
theorem concat_any (g : Nat) (Ss : List (Option Addr × Nat × List Int)) (w : World) (hg : g < w.heap.size) (hS : Sls w g Ss) (h0 : 0 < (flat Ss).length) (h1 : (flat Ss).length ≤ 100000000) (h2 : Ss.length ≤ 1000) :
    Calls Try.prog 67 #[.slice (some ⟨g, 0, none⟩) Ss.length Ss.length] w fun e w' => ∃ v, e = .returned v ∧ Own w' w.heap.size v (flat Ss) ∧ Below w.heap.size w w' := by
  obtain ⟨i0, hi, hz0, hz1, hz2⟩ := info_parts info5
  have HI := Lib.hid hi
  have HZ0 := Lib.hid hz0
  have HZ1 := Lib.hid hz1
  have HZ2 := Lib.hid hz2
  have HS := Lib.hid hS
  have HF := Lib.hid (fun k hk => flat_take Ss k hk)
  have HL := Lib.hid (fun k => flat_le Ss k)
  have HE : Hid (flat (Ss.take Ss.length) = flat Ss) := Lib.hid (by rw [List.take_length])
  clear hi hz0 hz1 hz2 hS
  go_enter Try.func67, Try.ntmps67
  go_wp2_with fail
  go_loop [3, 11] (fun s i => ∃ k : Nat, k ≤ Ss.length ∧ i = .int .i64 k ∧ s = .int .i64 ((flat (Ss.take k)).length : Nat)) (fun _ i => Ss.length - (intOf i).toNat)
  case atStart => exact ⟨0, by omega, rfl, rfl⟩
  case round =>
    obtain ⟨k, hk, rfl, rfl⟩ := hrel
    have hle := HL.out k
    by_cases hlt : k < Ss.length
    · obtain ⟨hc, -⟩ := HS.out k hlt
      have hle2 := HL.out (k + 1)
      have HF2 : Hid ((flat (Ss.take (k + 1))).length = (flat (Ss.take k)).length + (Ss.getD k (none, 0, [])).2.2.length) := Lib.hid (by rw [HF.out k hlt, List.length_append])
      have hx : (flat (Ss.take k)).length + (Ss.getD k (none, 0, [])).2.2.length ≤ (flat Ss).length := by have := HF2.out; omega
      clear hle2
      generalize Ss.getD k (none, 0, []) = S at *
      obtain ⟨sa, sc, SL⟩ := S
      simp only at *
      generalize (flat (Ss.take k)).length = x at *
      go_wp2
      go_round
      case rel => exact ⟨k + 1, by omega, by go_num, by rw [HF2.out]; go_num⟩
      case measure => simp [intOf]; omega
    · obtain rfl : k = Ss.length := by omega
      rw [HE.out]
      generalize hM : (flat Ss).length = M at *
      have HM := Lib.hid hM
      clear hM
      go_wp2_with fail
      refine (grow_nil M w h0 h1).mono ?_
      rintro e w1 ⟨v, rfl, hown, hb⟩
      have hz := hb.size
      go_wp2_with fail
      go_loopw [6, 27] (fun s i wx => ∃ k : Nat, k ≤ Ss.length ∧ i = .int .i64 k ∧ Own wx w.heap.size s (flat (Ss.take k)) ∧ Below w.heap.size w wx) (fun _ i _ => Ss.length - (intOf i).toNat)
      case atStart => exact ⟨0, by omega, rfl, hown, hb⟩
      case round =>
        obtain ⟨k, hk, rfl, ho, hb1⟩ := hrel
        have hle := HL.out k
        by_cases hlt : k < Ss.length
        · obtain ⟨hc, hs⟩ := HS.out k hlt
          have hc1 := (hb1.cell (p := ⟨g, k, none⟩) hg).trans hc
          have HSL := Lib.hid (sl_below hs hb1)
          have hle2 := HL.out (k + 1)
          have HF2 := Lib.hid (HF.out k hlt)
          have hx : (flat (Ss.take k)).length + (Ss.getD k (none, 0, [])).2.2.length ≤ M := by have := congrArg List.length HF2.out; rw [List.length_append] at this; omega
          clear hle2 hs hc
          generalize Ss.getD k (none, 0, []) = S at *
          obtain ⟨sa, sc, SL⟩ := S
          simp only at *
          generalize flat (Ss.take k) = x at *
          have hz1 := hb1.size
          go_wp2_with (at_builtin; refine append_src rfl _ _ 39 rfl w.heap.size i0 Try.underlying39 HI.out HZ0.out HZ1.out HZ2.out _ x.length _ rfl ho sa SL.length sc SL rfl rfl HSL.out ?d1 ?d2 ?_)
          case d1 => omega
          case d2 => exact hz1
          intro v2 w2 ho2 hgrow
          have hb2 := after_append (Nat.le_refl _) hz1 ho hb1 hgrow
          have HO : Hid (Own w2 w.heap.size v2 (flat (Ss.take (k + 1)))) := by
            rw [HF2.out]
            show w2.ownsRow _ _ _ _ _ _
            rw [List.length_append, List.map_append]
            exact ho2
          clear hgrow ho hb1 ho2
          go_wp2
          go_roundw
          case rel => exact ⟨k + 1, by omega, by go_num, HO.out, hb2⟩
          case measure => simp [intOf]; omega
        · obtain rfl : k = Ss.length := by omega
          have HO : Hid (Own wr w.heap.size _ (flat Ss)) := Lib.hid (HE.out ▸ ho)
          clear ho
          go_wp2
          go_ret
          exact ⟨_, rfl, HO.out, hb1⟩
end Go.Proofs.Ytaaeepanelmgnaa
namespace Go.Proofs.Ytaaeepanelmgnaa
set_option maxRecDepth 100000
open Go.RowKit

/-- A field lies in the cells from o on of block g. -/
def Box (w : World) (g o : Nat) (num kind val : Int) (b : Option Addr) (n d : Nat) : Prop :=
  w.cell? ⟨g, o, none⟩ = some (.int .i64 num) ∧ w.cell? ⟨g, o + 1, none⟩ = some (.int .i64 kind) ∧ w.cell? ⟨g, o + 2, none⟩ = some (.int .u64 val) ∧ w.cell? ⟨g, o + 3, none⟩ = some (.slice b n d)
theorem box_new (w : World) (num kind val : Int) (b : Option Addr) (n d : Nat) : Box (w.alloc (.cells #[.int .i64 num, .int .i64 kind, .int .u64 val, .slice b n d] 54)) w.heap.size 0 num kind val b n d := by
  refine ⟨?_, ?_, ?_, ?_⟩ <;> simp
theorem Box.lt {w : World} {g o : Nat} {num kind val : Int} {b : Option Addr} {n d : Nat} (h : Box w g o num kind val b n d) : g < w.heap.size := World.block_lt_of_cell? w (⟨g, o, none⟩ : Addr) h.1
theorem Box.below {w w' : World} {g o : Nat} {num kind val : Int} {b : Option Addr} {n d : Nat} (h : Box w g o num kind val b n d) (hb : Below w.heap.size w w') : Box w' g o num kind val b n d :=
  ⟨(hb.cell (p := ⟨g, o, none⟩) h.lt).trans h.1, (hb.cell (p := ⟨g, o + 1, none⟩) h.lt).trans h.2.1, (hb.cell (p := ⟨g, o + 2, none⟩) h.lt).trans h.2.2.1, (hb.cell (p := ⟨g, o + 3, none⟩) h.lt).trans h.2.2.2⟩

theorem sec_b (kind val : Int) (n : Nat) (hv : W64 val) (hn : n ≤ 1000000) : W64 (secI kind val n) := by
  unfold secI W64 at *
  split <;> omega

set_option maxHeartbeats 2000000 in
theorem code_wappend_bad (a : Option Addr) (len c : Nat) (num kind val : Int) (b : Option Addr) (n d : Nat) (w : World) (hv : ¬ Vfi num kind val n) :
    Calls Try.prog 60 #[.slice a len c, .agg #[.int .i64 num, .int .i64 kind, .int .u64 val, .slice b n d]] w fun e w' => e = .returned (.tuple #[.slice none 0 0, .int .i64 1]) ∧ Below w.heap.size w w' := by
  have cV := code_valid num kind val b n d
  rw [vldB_false hv] at cV
  go_enter Try.func60, Try.ntmps60
  go_wp2_with fail
  refine (cV _).mono ?_
  rintro e w1 ⟨rfl, hb1⟩
  have hb : Below w.heap.size w w1 := ((Below.refl _ w).alloc (Nat.le_refl _) (.cells #[.int .i64 num, .int .i64 kind, .int .u64 val, .slice b n d] 54)).trans (hb1.mono (by simp))
  clear cV hb1
  go_wp2
  go_ret2
  exact ⟨rfl, hb⟩

set_option maxHeartbeats 2000000 in
theorem code_wappend (a : Option Addr) (c : Nat) (L : List Int) (num kind val : Int) (b : Option Addr) (d : Nat) (B : List Int) (w : World) (hL : L.length ≤ 1000000) (hB : B.length ≤ 1000000) (hr : Sl w a c L) (hs : Sl w b d B) (hv : Vfi num kind val B.length) (hw : W64 val) :
    Calls Try.prog 60 #[.slice a L.length c, .agg #[.int .i64 num, .int .i64 kind, .int .u64 val, .slice b B.length d]] w fun e w' => ∃ v, e = .returned (.tuple #[v, .int .i64 0]) ∧ Own w' w.heap.size v (L ++ encI num kind val B) ∧ Below w.heap.size w w' := by
  have cV := code_valid num kind val b B.length d
  rw [vldB_true hv] at cV
  have hk : kind = 0 ∨ kind = 2 := by unfold Vfi at hv; omega
  have hn0 := hv.1
  have hn1 := hv.2.1
  have cT := fun w => code_tag num kind val b B.length d w hn0 hn1 hk
  have cS := fun w => code_second num kind val b B.length d w hB
  have hsb := sec_b kind val B.length hw hB
  have htb : W64 (8 * num + kind) := by unfold W64; omega
  have cA := fun w => code_append none 0 [] (8 * num + kind) w (by simp) (.inl ⟨rfl, rfl, rfl⟩) htb
  simp only [List.length_nil, List.nil_append] at cA
  have hEl := Enc_len (8 * num + kind)
  have hEl2 := Enc_len (secI kind val B.length)
  have cB := fun a c w hr => code_append a c (Enc (8 * num + kind)) (secI kind val B.length) w (by omega) hr hsb
  have hfin : encI num kind val B = (Enc (8 * num + kind) ++ Enc (secI kind val B.length)) ++ B := by simp [encI]
  generalize secI kind val B.length = sc at *
  generalize Enc (8 * num + kind) = E1 at *
  generalize Enc sc = E2 at *
  have HFIN := Lib.hid hfin
  have HR := Lib.hid hr
  have HS := Lib.hid hs
  clear hfin hr hs hk hv hsb
  go_enter Try.func60, Try.ntmps60
  go_wp2_with fail
  refine (cV _).mono ?_
  rintro e w1 ⟨rfl, hb1⟩
  have hx := (box_new w num kind val b B.length d).below hb1
  have hb : Below w.heap.size w w1 := ((Below.refl _ w).alloc (Nat.le_refl _) (.cells #[.int .i64 num, .int .i64 kind, .int .u64 val, .slice b B.length d] 54)).trans (hb1.mono (by simp))
  clear cV hb1
  go_wp2_with fail
  go_region_held3 (fun wx => wx.cell? ⟨w.heap.size, 0, none⟩ = some (.int .i64 num) ∧ wx.cell? ⟨w.heap.size, 0 + 1, none⟩ = some (.int .i64 kind) ∧ wx.cell? ⟨w.heap.size, 0 + 2, none⟩ = some (.int .u64 val) ∧ wx.cell? ⟨w.heap.size, 0 + 3, none⟩ = some (.slice b B.length d))
    (first | exact x5 | exact x4 | exact x3 | exact x2 | exact hx) (first
    | (go_at_call 64; refine (cB _ _ _ s4).mono ?_; rintro e w5 ⟨v5, rfl, ho5, hb5⟩; have x5 := x4.below hb5)
    | (go_at_call 65; refine (cT _).mono ?_; rintro e w2 ⟨rfl, hb2⟩; have x2 := Box.below (w := w1.drew) hx hb2)
    | (go_at_call 66; refine (cS _).mono ?_; rintro e w4 ⟨rfl, hb4⟩; have x4 := x3.below hb4; have s4 := sl_below s3 hb4)
    | (go_at_call 64; refine (cA _).mono ?_; rintro e w3 ⟨v3, rfl, ho3, hb3⟩; have x3 := x2.below hb3; obtain ⟨a3, c3, rfl, s3, -⟩ := Own.sl ho3))
  have hb5' : Below w.heap.size w w5 := (((hb.drew.trans (hb2.mono hb.size)).trans (hb3.mono (hb.drew.trans (hb2.mono hb.size)).size)).trans (hb4.mono ((hb.drew.trans (hb2.mono hb.size)).trans (hb3.mono (hb.drew.trans (hb2.mono hb.size)).size)).size)).trans
    (hb5.mono (((hb.drew.trans (hb2.mono hb.size)).trans (hb3.mono (hb.drew.trans (hb2.mono hb.size)).size)).trans (hb4.mono ((hb.drew.trans (hb2.mono hb.size)).trans (hb3.mono (hb.drew.trans (hb2.mono hb.size)).size)).size)).size)
  obtain ⟨a5, c5, rfl, s5, -⟩ := Own.sl ho5
  have x53 : w5.cell? ⟨w.heap.size, 3, none⟩ = some (.slice b B.length d) := x5.2.2.2
  have HB5 := Lib.hid hb5'
  have HS5 := Lib.hid s5
  have hlen : (E1 ++ E2).length ≤ 20 := by rw [List.length_append]; omega
  have hpos : 0 < (E1 ++ E2).length := by rw [List.length_append]; omega
  generalize E1 ++ E2 = E at *
  clear cT cS cA cB hx x2 x3 x4 x5 s3 s4 hb hb2 hb3 hb4 hb5 hb5' ho3 ho5 s5
  go_wp2_with fail
  have hbn := HB5.out.alloc HB5.out.size (.cells #[.slice a L.length c, .slice a5 E.length c5, .slice b B.length d] 39)
  have hbm := (Below.refl w5.heap.size w5).alloc (Nat.le_refl _) (.cells #[.slice a L.length c, .slice a5 E.length c5, .slice b B.length d] 39)
  have hS3 : Sls (w5.alloc (.cells #[.slice a L.length c, .slice a5 E.length c5, .slice b B.length d] 39)) w5.heap.size [(a, c, L), (a5, c5, E), (b, d, B)] := by
    intro k hk
    match k, hk with
    | 0, _ => exact ⟨by simp, sl_below HR.out hbn⟩
    | 1, _ => exact ⟨by simp, sl_below HS5.out hbm⟩
    | 2, _ => exact ⟨by simp, sl_below HS.out hbn⟩
  have hfl : flat [(a, c, L), (a5, c5, E), (b, d, B)] = L ++ (E ++ B) := by simp [flat]
  have cC := concat_any w5.heap.size [(a, c, L), (a5, c5, E), (b, d, B)] _ (by simp) hS3 (by rw [hfl]; simp only [List.length_append]; omega) (by rw [hfl]; simp only [List.length_append]; omega) (by simp)
  rw [hfl] at cC
  refine cC.mono ?_
  rintro e w6 ⟨v6, rfl, ho6, hb6⟩
  have hbl := hbn.trans (hb6.mono hbn.size)
  have HO : Hid (Own w6 w.heap.size v6 (L ++ encI num kind val B)) := by
    rw [HFIN.out]
    exact Lib.hid (ho6.base hbn.size)
  clear cC hS3 hbm hbn ho6 hb6 hfl
  go_wp2
  go_ret2
  exact ⟨_, rfl, HO.out, hbl⟩
end Go.Proofs.Ytaaeepanelmgnaa
namespace Go.Proofs.Ytaaeepanelmgnaa
set_option maxRecDepth 100000
open Go.RowKit

theorem bnext {w0 w w' : World} (h : Below w0.heap.size w0 w) (h2 : Below w.heap.size w w') : Below w0.heap.size w0 w' := h.trans (h2.mono h.size)

/-- The size of a field with n bytes and a small number. -/
def szB (n : Int) : Int := if n < 0 then 0 else 1 + ((Enc n).length : Nat) + n
/-- A read with an error. -/
theorem read_err {a : Option Addr} {c : Nat} {L : List Int} {w : World} (hL : L.length ≤ 1000000) (hr : Sl w a c L) (hw : ∀ x, x ∈ L → W8 x) {e0 : Int} (h : rd 0 0 L = (0, 0, e0)) :
    Calls Try.prog 69 #[.slice a L.length c] w fun e w' => e = .returned (.tuple #[.int .u64 0, .int .i64 0, .int .i64 e0]) ∧ w = w' := by
  have := code_read a c L w hL hr hw
  rw [h] at this
  exact this
theorem read_ok {a : Option Addr} {c : Nat} {L : List Int} {w : World} (hL : L.length ≤ 1000000) (hr : Sl w a c L) (hw : ∀ x, x ∈ L → W8 x) {t : Int} {k : Nat} (h : rd 0 0 L = (t, (k : Int), 0)) :
    Calls Try.prog 69 #[.slice a L.length c] w fun e w' => e = .returned (.tuple #[.int .u64 t, .int .i64 (k : Int), .int .i64 0]) ∧ w = w' := by
  have := code_read a c L w hL hr hw
  rw [h] at this
  exact this

set_option maxHeartbeats 1000000 in
theorem start_err (a : Option Addr) (c : Nat) (L : List Int) (w : World) (hL : L.length ≤ 1000000) (hr : Sl w a c L) (hw : ∀ x, x ∈ L → W8 x) (e0 : Int) (h : rd 0 0 L = (0, 0, e0)) (he : e0 ≠ 0) :
    Calls Try.prog 68 #[.slice a L.length c] w fun e w' => e = .returned (.tuple #[.agg #[.int .i64 0, .int .i64 0, .int .u64 0, .slice none 0 0], .int .i64 0, .int .i64 e0]) ∧ Below w.heap.size w w' := by
  have hbn := (Below.refl w.heap.size w).alloc (Nat.le_refl _) (.cells #[.int .i64 0, .int .i64 0, .int .u64 0, .slice none 0 0] 54)
  have cR := read_err hL (sl_below hr hbn) hw h
  have h1 : (e0 != 0) = true := by simpa using he
  have h2 : (e0 == 0) = false := by simpa using he
  clear h he hbn
  go_enter Try.func68, Try.ntmps68
  go_wp2_with fail
  refine cR.mono ?_
  rintro e w1 ⟨rfl, rfl⟩
  clear cR
  go_wp2
  exact bodyPost_ret (v := .tuple #[.agg #[.int .i64 0, .int .i64 0, .int .u64 0, .slice none 0 0], .int .i64 0, .int .i64 e0]) (by simp [results, Try.results68, go_sem]) rfl ⟨rfl, (Below.refl _ _).alloc (Nat.le_refl _) _⟩

set_option maxHeartbeats 1000000 in
theorem start_ok (a : Option Addr) (c : Nat) (L : List Int) (w : World) (hL : L.length ≤ 1000000) (hr : Sl w a c L) (hw : ∀ x, x ∈ L → W8 x) (t kd : Int) (k : Nat) (h : rd 0 0 L = (t, (k : Int), 0)) (hg : goodT t) (hk : t % 8 = kd) (hkd : kd = 0 ∨ kd = 2) :
    Calls Try.prog 68 #[.slice a L.length c] w fun e w' => e = .returned (.tuple #[.agg #[.int .i64 (t / 8), .int .i64 kd, .int .u64 0, .slice none 0 0], .int .i64 (k : Int), .int .i64 0]) ∧ Below w.heap.size w w' := by
  have hbn := (Below.refl w.heap.size w).alloc (Nat.le_refl _) (.cells #[.int .i64 0, .int .i64 0, .int .u64 0, .slice none 0 0] 54)
  have cR := read_ok hL (sl_below hr hbn) hw h
  obtain ⟨h1, h2, h3⟩ := hg
  have h0 : 0 ≤ t := by omega
  have h4 : t ≤ 18446744073709551615 := by omega
  clear h hbn h3
  rcases hkd with rfl | rfl
  · go_enter Try.func68, Try.ntmps68
    go_wp2_with fail
    refine cR.mono ?_
    rintro e w1 ⟨rfl, rfl⟩
    clear cR
    go_wp2
    exact bodyPost_ret (v := .tuple #[.agg #[.int .i64 (t / 8), .int .i64 0, .int .u64 0, .slice none 0 0], .int .i64 (k : Int), .int .i64 0]) (by simp [results, Try.results68, go_sem]) rfl ⟨rfl, (Below.refl _ _).alloc (Nat.le_refl _) _⟩
  · go_enter Try.func68, Try.ntmps68
    go_wp2_with fail
    refine cR.mono ?_
    rintro e w1 ⟨rfl, rfl⟩
    clear cR
    go_wp2
    exact bodyPost_ret (v := .tuple #[.agg #[.int .i64 (t / 8), .int .i64 2, .int .u64 0, .slice none 0 0], .int .i64 (k : Int), .int .i64 0]) (by simp [results, Try.results68, go_sem]) rfl ⟨rfl, (Below.refl _ _).alloc (Nat.le_refl _) _⟩
set_option maxHeartbeats 1000000 in
theorem start_bad (a : Option Addr) (c : Nat) (L : List Int) (w : World) (hL : L.length ≤ 1000000) (hr : Sl w a c L) (hw : ∀ x, x ∈ L → W8 x) (t : Int) (k : Nat) (h : rd 0 0 L = (t, (k : Int), 0)) (h0 : 0 ≤ t) (h1 : t ≤ 18446744073709551615) (hg : ¬ goodT t) :
    Calls Try.prog 68 #[.slice a L.length c] w fun e w' => e = .returned (.tuple #[.agg #[.int .i64 0, .int .i64 0, .int .u64 0, .slice none 0 0], .int .i64 0, .int .i64 4]) ∧ Below w.heap.size w w' := by
  have hbn := (Below.refl w.heap.size w).alloc (Nat.le_refl _) (.cells #[.int .i64 0, .int .i64 0, .int .u64 0, .slice none 0 0] 54)
  have cR := read_ok hL (sl_below hr hbn) hw h
  unfold goodT at hg
  have HG := Lib.hid hg
  clear h hbn hg
  go_enter Try.func68, Try.ntmps68
  go_wp2_with fail
  refine cR.mono ?_
  rintro e w1 ⟨rfl, rfl⟩
  clear cR
  go_wp2
  all_goals first
    | (exfalso; have hh := HG.out; clear HG; simp at *; omega)
    | exact bodyPost_ret (v := .tuple #[.agg #[.int .i64 0, .int .i64 0, .int .u64 0, .slice none 0 0], .int .i64 0, .int .i64 4]) (by simp [results, Try.results68, go_sem]) rfl ⟨rfl, (Below.refl _ _).alloc (Nat.le_refl _) _⟩
end Go.Proofs.Ytaaeepanelmgnaa
namespace Go.Proofs.Ytaaeepanelmgnaa
set_option maxRecDepth 100000
open Go.RowKit

/-- A call returned the field, the size and the error R; the field's bytes lie in memory of its own. -/
def OneR (w : World) (R : Fld × Int × Int) (e : Ending) (w' : World) : Prop :=
  ∃ v, e = .returned (.tuple #[.agg #[.int .i64 R.1.num, .int .i64 R.1.kind, .int .u64 R.1.val, v], .int .i64 R.2.1, .int .i64 R.2.2]) ∧ Own w' w.heap.size v R.1.bytes ∧ Below w.heap.size w w'
theorem oneR_err {w w' : World} {e0 : Int} (hb : Below w.heap.size w w') : OneR w (zeroF, 0, e0) (.returned (.tuple #[.agg #[.int .i64 0, .int .i64 0, .int .u64 0, .slice none 0 0], .int .i64 0, .int .i64 e0])) w' := ⟨_, rfl, Own.nil _ _, hb⟩

/-- The four cells of a block, none of them frozen. -/
def Cells4 (w : World) (g : Nat) (c0 c1 c2 c3 : Value) : Prop :=
  w.cell? ⟨g, 0, none⟩ = some c0 ∧ w.cell? ⟨g, 1, none⟩ = some c1 ∧ w.cell? ⟨g, 2, none⟩ = some c2 ∧ w.cell? ⟨g, 3, none⟩ = some c3 ∧ ∀ o, w.frozen? ⟨g, o, none⟩ = false
theorem cells4_new (w : World) (c0 c1 c2 c3 : Value) : Cells4 (w.alloc (.cells #[c0, c1, c2, c3] 54)) w.heap.size c0 c1 c2 c3 := by
  refine ⟨by simp, by simp, by simp, by simp, fun o => World.frozen?_alloc_at _ _ _ _ rfl⟩
theorem Cells4.lt {w : World} {g : Nat} {c0 c1 c2 c3 : Value} (h : Cells4 w g c0 c1 c2 c3) : g < w.heap.size := World.block_lt_of_cell? w (⟨g, 0, none⟩ : Addr) h.1
theorem Cells4.below {w w' : World} {g : Nat} {c0 c1 c2 c3 : Value} (h : Cells4 w g c0 c1 c2 c3) (hb : Below w.heap.size w w') : Cells4 w' g c0 c1 c2 c3 := by
  have hl := h.lt
  obtain ⟨h0, h1, h2, h3, hf⟩ := h
  exact ⟨(hb.cell (p := ⟨g, 0, none⟩) hl).trans h0, (hb.cell (p := ⟨g, 1, none⟩) hl).trans h1, (hb.cell (p := ⟨g, 2, none⟩) hl).trans h2, (hb.cell (p := ⟨g, 3, none⟩) hl).trans h3, fun o => (hb.frozen (p := ⟨g, o, none⟩) hl).trans (hf o)⟩
theorem Cells4.set {w : World} {g : Nat} {c0 c1 c2 c3 : Value} (h : Cells4 w g c0 c1 c2 c3) (d0 d1 d2 d3 : Value) :
    Cells4 ((((w.setCell ⟨g, 0, none⟩ d0).setCell ⟨g, 1, none⟩ d1).setCell ⟨g, 2, none⟩ d2).setCell ⟨g, 3, none⟩ d3) g d0 d1 d2 d3 := by
  obtain ⟨h0, h1, h2, h3, hf⟩ := h
  refine ⟨?_, ?_, ?_, ?_, fun o => ?_⟩
  · rw [World.cell?_setCell_other _ _ _ _ (by simp), World.cell?_setCell_other _ _ _ _ (by simp), World.cell?_setCell_other _ _ _ _ (by simp)]
    exact World.cell?_setCell_same _ _ _ h0
  · rw [World.cell?_setCell_other _ _ _ _ (by simp), World.cell?_setCell_other _ _ _ _ (by simp)]
    exact World.cell?_setCell_same _ _ _ ((World.cell?_setCell_other _ _ _ _ (by simp)).trans h1)
  · rw [World.cell?_setCell_other _ _ _ _ (by simp)]
    exact World.cell?_setCell_same _ _ _ ((World.cell?_setCell_other _ _ _ _ (by simp)).trans ((World.cell?_setCell_other _ _ _ _ (by simp)).trans h2))
  · exact World.cell?_setCell_same _ _ _ ((World.cell?_setCell_other _ _ _ _ (by simp)).trans ((World.cell?_setCell_other _ _ _ _ (by simp)).trans ((World.cell?_setCell_other _ _ _ _ (by simp)).trans h3)))
  · rw [World.frozen?_setCell, World.frozen?_setCell, World.frozen?_setCell, World.frozen?_setCell]
    exact hf o
theorem below4 {w0 w : World} {g : Nat} (h : Below w0.heap.size w0 w) (hg : w0.heap.size ≤ g) (d0 d1 d2 d3 : Value) :
    Below w0.heap.size w0 ((((w.setCell ⟨g, 0, none⟩ d0).setCell ⟨g, 1, none⟩ d1).setCell ⟨g, 2, none⟩ d2).setCell ⟨g, 3, none⟩ d3) :=
  (((h.setCell (p := ⟨g, 0, none⟩) hg _).setCell (p := ⟨g, 1, none⟩) hg _).setCell (p := ⟨g, 2, none⟩) hg _).setCell (p := ⟨g, 3, none⟩) hg _

theorem set4 {w0 w : World} {g : Nat} {c0 c1 c2 c3 : Value} (h : Cells4 w g c0 c1 c2 c3) (hb : Below w0.heap.size w0 w) (hg : w0.heap.size ≤ g) (d0 d1 d2 d3 : Value) :
    ∃ W, (((w.setCell ⟨g, 0, none⟩ d0).setCell ⟨g, 1, none⟩ d1).setCell ⟨g, 2, none⟩ d2).setCell ⟨g, 3, none⟩ d3 = W ∧ Cells4 W g d0 d1 d2 d3 ∧ Below w0.heap.size w0 W ∧
      (∀ B v L, Own w B v L → g < B → Own W B v L) ∧ w.heap.size ≤ W.heap.size :=
  ⟨_, rfl, h.set _ _ _ _, below4 hb hg _ _ _ _, fun B v L ho hl => ownsRow_setCell_below (ownsRow_setCell_below (ownsRow_setCell_below (ownsRow_setCell_below ho (a := ⟨g, 0, none⟩) hl _) (a := ⟨g, 1, none⟩) hl _) (a := ⟨g, 2, none⟩) hl _) (a := ⟨g, 3, none⟩) hl _, by simp⟩
theorem set1_2 {w0 w : World} {g : Nat} {c0 c1 c2 c3 : Value} (h : Cells4 w g c0 c1 c2 c3) (hb : Below w0.heap.size w0 w) (hg : w0.heap.size ≤ g) (d : Value) :
    ∃ W, w.setCell ⟨g, 2, none⟩ d = W ∧ Cells4 W g c0 c1 d c3 ∧ Below w0.heap.size w0 W := by
  refine ⟨_, rfl, ?_, hb.setCell (p := ⟨g, 2, none⟩) hg _⟩
  obtain ⟨h0, h1, h2, h3, hf⟩ := h
  exact ⟨(World.cell?_setCell_other _ _ _ _ (by simp)).trans h0, (World.cell?_setCell_other _ _ _ _ (by simp)).trans h1, World.cell?_setCell_same _ _ _ h2, (World.cell?_setCell_other _ _ _ _ (by simp)).trans h3, fun o => (World.frozen?_setCell _ _ _ _).trans (hf o)⟩
theorem set1_3 {w0 w : World} {g : Nat} {c0 c1 c2 c3 : Value} (h : Cells4 w g c0 c1 c2 c3) (hb : Below w0.heap.size w0 w) (hg : w0.heap.size ≤ g) (d : Value) :
    ∃ W, w.setCell ⟨g, 3, none⟩ d = W ∧ Cells4 W g c0 c1 c2 d ∧ Below w0.heap.size w0 W ∧ (∀ B v L, Own w B v L → g < B → Own W B v L) := by
  refine ⟨_, rfl, ?_, hb.setCell (p := ⟨g, 3, none⟩) hg _, fun B v L ho hl => ownsRow_setCell_below ho (a := ⟨g, 3, none⟩) hl _⟩
  obtain ⟨h0, h1, h2, h3, hf⟩ := h
  exact ⟨(World.cell?_setCell_other _ _ _ _ (by simp)).trans h0, (World.cell?_setCell_other _ _ _ _ (by simp)).trans h1, (World.cell?_setCell_other _ _ _ _ (by simp)).trans h2, World.cell?_setCell_same _ _ _ h3, fun o => (World.frozen?_setCell _ _ _ _).trans (hf o)⟩

set_option maxHeartbeats 2000000 in
theorem code_first (a : Option Addr) (c : Nat) (L : List Int) (w : World) (hL : L.length ≤ 1000000) (hr : Sl w a c L) (hw : ∀ x, x ∈ L → W8 x) (hc : L.length ≤ c) :
    Calls Try.prog 61 #[.slice a L.length c] w (OneR w (onef L)) := by
  have hbn := (Below.refl w.heap.size w).alloc (Nat.le_refl _) (.cells #[.int .i64 0, .int .i64 0, .int .u64 0, .slice none 0 0] 54)
  have hz : w.heap.size < (w.alloc (.cells #[.int .i64 0, .int .i64 0, .int .u64 0, .slice none 0 0] 54)).heap.size := by simp
  rcases one_cases L hw with ⟨e0, h, he⟩ | ⟨t, h, ht0, ht1, hrd, hh0, hh10, hle, -, -, hcs⟩
  · rw [one_tag h he]
    have cS := start_err a c L _ hL (sl_below hr hbn) hw e0 h he
    have h1 : (e0 != 0) = true := by simpa using he
    have h2 : (e0 == 0) = false := by simpa using he
    clear h he
    go_enter Try.func61, Try.ntmps61
    go_wp2_with fail
    refine cS.mono ?_
    rintro e w1 ⟨rfl, hb⟩
    have hbl := bnext hbn hb
    have K := (cells4_new w _ _ _ _).below hb
    have K' := Lib.hid K
    obtain ⟨k0, k1, k2, k3, kf⟩ := K
    clear cS hbn hb hz
    go_wp2
    clear k0 k1 k2 k3 kf
    obtain ⟨W2, hW2, KE, hblE, -, -⟩ := set4 K'.out hbl (Nat.le_refl _) (.int .i64 0) (.int .i64 0) (.int .u64 0) (.slice none 0 0)
    rw [hW2]
    obtain ⟨W3, hW3, KE3, hblE3, -, -⟩ := set4 KE hblE (Nat.le_refl _) (.int .i64 0) (.int .i64 0) (.int .u64 0) (.slice none 0 0)
    rw [hW3]
    clear hW2 hW3 KE hblE
    obtain ⟨k0, k1, k2, k3, kf⟩ := KE3
    exact bodyPost_ret (v := .tuple #[.agg #[.int .i64 0, .int .i64 0, .int .u64 0, .slice none 0 0], .int .i64 0, .int .i64 e0]) (by simp [results, Try.results61, go_sem, k0, k1, k2, k3]) rfl (oneR_err hblE3)
  rcases hcs with hb | ⟨hg, hcs⟩
  · rw [one_bad hrd hb]
    have cS := start_bad a c L _ hL (sl_below hr hbn) hw t h hrd ht0 ht1 hb
    clear hrd hb
    go_enter Try.func61, Try.ntmps61
    go_wp2_with fail
    refine cS.mono ?_
    rintro e w1 ⟨rfl, hb⟩
    have hbl := bnext hbn hb
    have K := (cells4_new w _ _ _ _).below hb
    have K' := Lib.hid K
    obtain ⟨k0, k1, k2, k3, kf⟩ := K
    clear cS hbn hb hz
    go_wp2
    clear k0 k1 k2 k3 kf
    obtain ⟨W2, hW2, KE, hblE, -, -⟩ := set4 K'.out hbl (Nat.le_refl _) (.int .i64 0) (.int .i64 0) (.int .u64 0) (.slice none 0 0)
    rw [hW2]
    obtain ⟨W3, hW3, KE3, hblE3, -, -⟩ := set4 KE hblE (Nat.le_refl _) (.int .i64 0) (.int .i64 0) (.int .u64 0) (.slice none 0 0)
    rw [hW3]
    clear hW2 hW3 KE hblE
    obtain ⟨k0, k1, k2, k3, kf⟩ := KE3
    exact bodyPost_ret (v := .tuple #[.agg #[.int .i64 0, .int .i64 0, .int .u64 0, .slice none 0 0], .int .i64 0, .int .i64 4]) (by simp [results, Try.results61, go_sem, k0, k1, k2, k3]) rfl (oneR_err hblE3)
  obtain ⟨kd, hk, hkd⟩ : ∃ kd, t % 8 = kd ∧ (kd = 0 ∨ kd = 2) := ⟨_, rfl, hg.2.2⟩
  have cS := start_ok a c L _ hL (sl_below hr hbn) hw t kd h hrd hg hk hkd
  have HS := Lib.hid (sl_from hr h hc)
  have hsl := fun wx => slice_from .i64 a L.length c h wx hle
  rcases hcs with ⟨e0, h2, he⟩ | ⟨n, k, hn, h2, hk0, hk10, hle2, -, -⟩
  · rw [one_len hrd hg h2 he]
    have cR : ∀ wx, Sl wx (fromA a c h) (c - h) (L.drop h) → Calls Try.prog 69 #[.slice (fromA a c h) (L.length - h) (c - h)] wx fun e w' => e = .returned (.tuple #[.int .u64 0, .int .i64 0, .int .i64 e0]) ∧ wx = w' := by
      intro wx hs
      have := read_err (by rw [List.length_drop]; omega) hs (drop_bytes hw h) h2
      rw [List.length_drop] at this
      exact this
    have h1 : (e0 != 0) = true := by simpa using he
    have h2' : (e0 == 0) = false := by simpa using he
    clear h2 he hk hkd hrd hg
    go_enter Try.func61, Try.ntmps61
    go_wp2_with fail
    refine cS.mono ?_
    rintro e w1 ⟨rfl, hb⟩
    have hbl := bnext hbn hb
    have K := (cells4_new w _ _ _ _).below hb
    have K' := Lib.hid K
    obtain ⟨k0, k1, k2, k3, kf⟩ := K
    clear cS hbn hb hz
    go_wp2_with fail
    obtain ⟨W, hW, K2', hbl2, -, hzW⟩ := set4 K'.out hbl (Nat.le_refl _) (.int .i64 (t / 8)) (.int .i64 kd) (.int .u64 0) (.slice none 0 0)
    rw [hW]
    clear k0 k1 k2 k3 kf hbl K' hW
    have K2 := Lib.hid K2'
    obtain ⟨k0, k1, k2, k3, kf⟩ := K2'
    refine (cR _ (sl_below HS.out hbl2)).mono ?_
    rintro e w2 ⟨rfl, rfl⟩
    clear cR
    go_wp2
    clear k0 k1 k2 k3 kf
    obtain ⟨W3, hW3, KE3, hblE3, -, -⟩ := set4 K2.out hbl2 (Nat.le_refl _) (.int .i64 0) (.int .i64 0) (.int .u64 0) (.slice none 0 0)
    rw [hW3]
    clear hW3
    obtain ⟨k0, k1, k2, k3, kf⟩ := KE3
    exact bodyPost_ret (v := .tuple #[.agg #[.int .i64 0, .int .i64 0, .int .u64 0, .slice none 0 0], .int .i64 0, .int .i64 e0]) (by simp [results, Try.results61, go_sem, k0, k1, k2, k3]) rfl (oneR_err hblE3)
  have cR : ∀ wx, Sl wx (fromA a c h) (c - h) (L.drop h) → Calls Try.prog 69 #[.slice (fromA a c h) (L.length - h) (c - h)] wx fun e w' => e = .returned (.tuple #[.int .u64 (n : Int), .int .i64 (k : Int), .int .i64 0]) ∧ wx = w' := by
    intro wx hs
    have := read_ok (by rw [List.length_drop]; omega) hs (drop_bytes hw h) h2
    rw [List.length_drop] at this
    exact this
  rcases hkd with rfl | rfl
  · rw [one_var hrd hg h2 hk]
    generalize t / 8 = q at *
    clear h2 hk hrd hg
    go_enter Try.func61, Try.ntmps61
    go_wp2_with fail
    refine cS.mono ?_
    rintro e w1 ⟨rfl, hb⟩
    have hbl := bnext hbn hb
    have K := (cells4_new w _ _ _ _).below hb
    have K' := Lib.hid K
    obtain ⟨k0, k1, k2, k3, kf⟩ := K
    clear cS hbn hb hz
    go_wp2_with fail
    obtain ⟨W, hW, K2', hbl2, -, hzW⟩ := set4 K'.out hbl (Nat.le_refl _) (.int .i64 q) (.int .i64 0) (.int .u64 0) (.slice none 0 0)
    rw [hW]
    clear k0 k1 k2 k3 kf hbl K' hW
    have K2 := Lib.hid K2'
    obtain ⟨k0, k1, k2, k3, kf⟩ := K2'
    refine (cR _ (sl_below HS.out hbl2)).mono ?_
    rintro e w2 ⟨rfl, rfl⟩
    clear cR
    go_wp2
    clear k0 k1 k2 k3 kf
    obtain ⟨W2, hW2, KE, hblE⟩ := set1_2 K2.out hbl2 (Nat.le_refl _) (.int .u64 (n : Int))
    rw [hW2]
    obtain ⟨W3, hW3, KE3, hblE3, -, -⟩ := set4 KE hblE (Nat.le_refl _) (.int .i64 q) (.int .i64 0) (.int .u64 (n : Int)) (.slice none 0 0)
    rw [hW3]
    clear hW2 hW3 KE hblE
    obtain ⟨k0, k1, k2, k3, kf⟩ := KE3
    exact bodyPost_ret (v := .tuple #[.agg #[.int .i64 q, .int .i64 0, .int .u64 (n : Int), .slice none 0 0], .int .i64 ((h + k : Nat) : Int), .int .i64 0]) (by simp [results, Try.results61, go_sem, k0, k1, k2, k3]) rfl ⟨_, rfl, Own.nil _ _, hblE3⟩
  have hsl2 : ∀ wx, (Instr.slice 39 (.slice a L.length c) (some (.int .i64 ((h : Int) + (k : Int)))) none none).run Try.prog wx = .ok (.slice (fromA a c (h + k)) (L.length - (h + k)) (c - (h + k))) wx := fun wx => slice_from .i64 a L.length c (h + k) wx hle2
  by_cases hs : n ≤ (L.drop (h + k)).length
  · rw [one_bytes hrd hg h2 hk hs]
    rw [List.length_drop] at hs
    have HS2 := Lib.hid (sl_take (sl_from hr (h + k) hc) n)
    have hsl3 := fun wx => slice_to .u64 (fromA a c (h + k)) (L.length - (h + k)) (c - (h + k)) n wx (by omega)
    have cC : ∀ wx, Sl wx (fromA a c (h + k)) (c - (h + k)) ((L.drop (h + k)).take n) → Calls Try.prog 70 #[.slice (fromA a c (h + k)) n (c - (h + k))] wx fun e w' => ∃ v, e = .returned v ∧ Own w' wx.heap.size v ((L.drop (h + k)).take n) ∧ Below wx.heap.size wx w' := by
      intro wx hs'
      have := clone_any (fromA a c (h + k)) (c - (h + k)) ((L.drop (h + k)).take n) wx (by rw [List.length_take, List.length_drop]; omega) hs'
      rw [List.length_take, List.length_drop, Nat.min_eq_left hs] at this
      exact this
    have hlB : ((L.drop (h + k)).take n).length = n := by rw [List.length_take, List.length_drop]; omega
    generalize (L.drop (h + k)).take n = B at *
    subst hlB
    have hr1 : L.length - (h + k) ≤ 1000000 := by omega
    have hBL : B.length ≤ 1000000 := by omega
    generalize L.length - (h + k) = r at *
    generalize t / 8 = q at *
    clear h2 hk hrd hg
    go_enter Try.func61, Try.ntmps61
    go_wp2_with fail
    refine cS.mono ?_
    rintro e w1 ⟨rfl, hb⟩
    have hbl := bnext hbn hb
    have K := (cells4_new w _ _ _ _).below hb
    have K' := Lib.hid K
    obtain ⟨k0, k1, k2, k3, kf⟩ := K
    clear cS hbn hb hz
    go_wp2_with fail
    obtain ⟨W, hW, K2', hbl2, -, hzW⟩ := set4 K'.out hbl (Nat.le_refl _) (.int .i64 q) (.int .i64 2) (.int .u64 0) (.slice none 0 0)
    rw [hW]
    clear k0 k1 k2 k3 kf hbl K' hW
    have K2 := Lib.hid K2'
    obtain ⟨k0, k1, k2, k3, kf⟩ := K2'
    refine (cR _ (sl_below HS.out hbl2)).mono ?_
    rintro e w2 ⟨rfl, rfl⟩
    clear cR
    go_wp2_with fail
    refine (cC _ (sl_below HS2.out hbl2)).mono ?_
    rintro e w3 ⟨v3, rfl, ho3, hb3⟩
    have K3 := Lib.hid (K2.out.below hb3)
    have hbl3 := bnext hbl2 hb3
    have hgl := K2.out.lt
    obtain ⟨a3, c3, rfl, -, -⟩ := Own.sl ho3
    clear k0 k1 k2 k3 kf cC hb3 K2
    obtain ⟨k0, k1, k2, k3, kf⟩ := K3.out
    go_wp2
    clear k0 k1 k2 k3 kf
    obtain ⟨W2, hW2, KE, hblE, ho4⟩ := set1_3 K3.out hbl3 (Nat.le_refl _) (.slice a3 B.length c3)
    rw [hW2]
    obtain ⟨W3, hW3, KE3, hblE3, ho5, -⟩ := set4 KE hblE (Nat.le_refl _) (.int .i64 q) (.int .i64 2) (.int .u64 0) (.slice a3 B.length c3)
    rw [hW3]
    have hO := (ho5 _ _ _ (ho4 _ _ _ ho3 hgl) hgl).base hbl2.size
    clear hW2 hW3 KE hblE
    obtain ⟨k0, k1, k2, k3, kf⟩ := KE3
    exact bodyPost_ret (v := .tuple #[.agg #[.int .i64 q, .int .i64 2, .int .u64 0, .slice a3 B.length c3], .int .i64 ((h + k + B.length : Nat) : Int), .int .i64 0]) (by simp [results, Try.results61, go_sem, k0, k1, k2, k3]) rfl ⟨_, rfl, hO, hblE3⟩
  · rw [one_short hrd hg h2 hk (by omega)]
    rw [List.length_drop] at hs
    have hr1 : L.length - (h + k) ≤ 1000000 := by omega
    have hr2 : L.length - (h + k) < n := by omega
    generalize L.length - (h + k) = r at *
    generalize t / 8 = q at *
    clear h2 hk hrd hg hs
    go_enter Try.func61, Try.ntmps61
    go_wp2_with fail
    refine cS.mono ?_
    rintro e w1 ⟨rfl, hb⟩
    have hbl := bnext hbn hb
    have K := (cells4_new w _ _ _ _).below hb
    have K' := Lib.hid K
    obtain ⟨k0, k1, k2, k3, kf⟩ := K
    clear cS hbn hb hz
    go_wp2_with fail
    obtain ⟨W, hW, K2', hbl2, -, hzW⟩ := set4 K'.out hbl (Nat.le_refl _) (.int .i64 q) (.int .i64 2) (.int .u64 0) (.slice none 0 0)
    rw [hW]
    clear k0 k1 k2 k3 kf hbl K' hW
    have K2 := Lib.hid K2'
    obtain ⟨k0, k1, k2, k3, kf⟩ := K2'
    refine (cR _ (sl_below HS.out hbl2)).mono ?_
    rintro e w2 ⟨rfl, rfl⟩
    clear cR
    go_wp2
    clear k0 k1 k2 k3 kf
    obtain ⟨W3, hW3, KE3, hblE3, -, -⟩ := set4 K2.out hbl2 (Nat.le_refl _) (.int .i64 0) (.int .i64 0) (.int .u64 0) (.slice none 0 0)
    rw [hW3]
    clear hW3
    obtain ⟨k0, k1, k2, k3, kf⟩ := KE3
    exact bodyPost_ret (v := .tuple #[.agg #[.int .i64 0, .int .i64 0, .int .u64 0, .slice none 0 0], .int .i64 0, .int .i64 5]) (by simp [results, Try.results61, go_sem, k0, k1, k2, k3]) rfl (oneR_err hblE3)
end Go.Proofs.Ytaaeepanelmgnaa
namespace Go.Proofs.Ytaaeepanelmgnaa
set_option maxRecDepth 100000
open Go.RowKit

/-- The four cells of a field whose bytes are the slice p.2. -/
def cellsOf (p : Fld × Value) : List Value := [.int .i64 p.1.num, .int .i64 p.1.kind, .int .u64 p.1.val, p.2]
def row4 (ps : List (Fld × Value)) : List Value := ps.flatMap cellsOf
theorem row4_length (ps : List (Fld × Value)) : (row4 ps).length = ps.length * 4 := by
  induction ps with
  | nil => rfl
  | cons p ps ih =>
    have : row4 (p :: ps) = cellsOf p ++ row4 ps := rfl
    rw [this, List.length_append, ih, List.length_cons]
    simp only [cellsOf, List.length_cons, List.length_nil]
    omega
theorem row4_get (ps : List (Fld × Value)) : ∀ (i j : Nat) (p : Fld × Value), ps[i]? = some p → j < 4 → (row4 ps)[i * 4 + j]? = (cellsOf p)[j]? := by
  induction ps with
  | nil => intro i j p h; simp at h
  | cons q ps ih =>
    intro i j p h hj
    have hr : row4 (q :: ps) = cellsOf q ++ row4 ps := rfl
    have hq : (cellsOf q).length = 4 := rfl
    rw [hr]
    cases i with
    | zero =>
      simp only [List.getElem?_cons_zero, Option.some.injEq] at h
      subst h
      rw [List.getElem?_append_left (by omega)]
      simp
    | succ i =>
      rw [List.getElem?_cons_succ] at h
      rw [List.getElem?_append_right (by omega), hq, show (i + 1) * 4 + j - 4 = i * 4 + j by omega]
      exact ih i j p h hj
theorem row4_snoc (ps : List (Fld × Value)) (p : Fld × Value) : row4 (ps ++ [p]) = row4 ps ++ cellsOf p := by
  simp only [row4, List.flatMap_append, List.flatMap_cons, List.flatMap_nil, List.append_nil]

/-- A row of fields that the call made. -/
def RowB (w : World) (B : Nat) (v : Value) (ps : List (Fld × Value)) : Prop :=
  w.ownsRow B 54 4 v ps.length (row4 ps) ∧ ∀ p, p ∈ ps → Own w B p.2 p.1.bytes
theorem RowB.nil (w : World) (B : Nat) : RowB w B (.slice none 0 0) [] := ⟨World.ownsRow_nil _ _ _ _, fun p h => by simp at h⟩
theorem RowB.below {w w' : World} {B : Nat} {v : Value} {ps : List (Fld × Value)} (h : RowB w B v ps) (hb : Below w.heap.size w w') : RowB w' B v ps := ⟨own_below h.1 hb, fun p hp => (h.2 p hp).below hb⟩
theorem RowB.base {w : World} {B B' : Nat} {v : Value} {ps : List (Fld × Value)} (h : RowB w B' v ps) (hB : B ≤ B') : RowB w B v ps := ⟨own_base h.1 hB, fun p hp => (h.2 p hp).base hB⟩
theorem RowB.form {w : World} {B : Nat} {v : Value} {ps : List (Fld × Value)} (h : RowB w B v ps) : ∃ a c, v = .slice a ps.length c ∧ ps.length ≤ c := by
  rcases h.1.2 with ⟨rfl, h0⟩ | ⟨g, cap, cur, rfl, _, _, hcap, _⟩
  · exact ⟨none, 0, by rw [h0], by omega⟩
  · exact ⟨_, cap, rfl, hcap⟩
/-- One field more. -/
theorem RowB.step {B : Nat} {w w2 : World} {v v' : Value} {ps : List (Fld × Value)} {p : Fld × Value} {o : Obj} (h : RowB w B v ps) (hc : Own w B p.2 p.1.bytes)
    (hown : w2.ownsRow B 54 4 v' (ps.length + 1) (row4 ps ++ cellsOf p)) (hgrow : (w.alloc o).grownBy w2 v.ownBlock) : RowB w2 B v' (ps ++ [p]) := by
  have keep : ∀ (c : Value) (ys : List Int), Own w B c ys → Own w2 B c ys := fun c ys hh => (World.ownsRow.alloc hh o).kept hgrow (own_ne hh h.1 (by decide))
  refine ⟨by rw [row4_snoc, List.length_append]; exact hown, fun q hq => ?_⟩
  rcases List.mem_append.1 hq with hq | hq
  · exact keep _ _ (h.2 q hq)
  · obtain rfl : q = p := by simpa using hq
    exact keep _ _ hc
theorem cells_of_new (w : World) (p : Fld × Value) (g : Nat) (hg : g = w.heap.size) : ∀ j u, (cellsOf p)[j]? = some u → (w.alloc (.cells #[.int .i64 p.1.num, .int .i64 p.1.kind, .int .u64 p.1.val, p.2] 54)).cell? ((⟨g, 0, none⟩ : Addr).add j) = some u := by
  subst hg
  intro j u hj
  rw [Go.WideShapes.add_plain, cell_of_row _ w.heap.size (0 + j) _ 54 (0, 0) (heap_alloc_new w _), Nat.zero_add]
  simpa [cellsOf] using hj
theorem cells_one {w : World} {B : Nat} {p : Fld × Value} {L : List Int} (h : Own w B p.2 L) : ∀ u ∈ cellsOf p, u.oneCell' = true := by
  obtain ⟨a, c, he, -, -⟩ := h.sl
  intro u hu
  simp only [cellsOf, List.mem_cons, List.not_mem_nil, or_false, he] at hu
  rcases hu with rfl | rfl | rfl | rfl <;> rfl

/-- What a call that reads a message returned: the fields, the offset, the error R. -/
def FldsR (w : World) (R : List Fld × Int × Int) (e : Ending) (w' : World) : Prop :=
  ∃ v ps, e = .returned (.tuple #[v, .int .i64 R.2.1, .int .i64 R.2.2]) ∧ ps.map Prod.fst = R.1 ∧ RowB w' w.heap.size v ps ∧ Below w.heap.size w w'
end Go.Proofs.Ytaaeepanelmgnaa
namespace Go.Proofs.Ytaaeepanelmgnaa
set_option maxRecDepth 100000
open Go.RowKit

theorem fldsR_err {w w' : World} {Res : List Fld × Int × Int} {i e0 : Int} {j : Int} (h : Res = ([], i, e0)) (hj : j = i) (hb : Below w.heap.size w w') : FldsR w Res (.returned (.tuple #[.slice none 0 0, .int .i64 j, .int .i64 e0])) w' := by
  subst h hj
  exact ⟨_, [], rfl, rfl, RowB.nil _ _, hb⟩
theorem fldsR_ok {w w' : World} {Res : List Fld × Int × Int} {v : Value} {ps : List (Fld × Value)} (h : Res = (ps.map Prod.fst, 0, 0)) (hr : RowB w' w.heap.size v ps) (hb : Below w.heap.size w w') : FldsR w Res (.returned (.tuple #[v, .int .i64 0, .int .i64 0])) w' := by
  subst h
  exact ⟨_, ps, rfl, rfl, hr, hb⟩

set_option maxHeartbeats 2000000 in
set_option maxRecDepth 100000 in
theorem code_fields (a : Option Addr) (c : Nat) (L : List Int) (w : World) (hL : L.length ≤ 1000000) (hr : Sl w a c L) (hw : ∀ x, x ∈ L → W8 x) (hc : L.length ≤ c) :
    Calls Try.prog 51 #[.slice a L.length c] w (FldsR w (flds L)) := by
  obtain ⟨i0, hi, hz0, hz1, hz2⟩ := info_parts info25
  have HI := Lib.hid hi
  have HZ0 := Lib.hid hz0
  have HZ1 := Lib.hid hz1
  have HZ2 := Lib.hid hz2
  have HD : Hid (flds L = fldsG (L.length + 1) [] 0 L) := rfl
  have HR := Lib.hid hr
  have HW := Lib.hid hw
  generalize flds L = Res at *
  clear hi hz0 hz1 hz2 hr hw
  go_enter Try.func51, Try.ntmps51
  go_wp2_with fail
  go_loopg [2, 5] L.length (fun g s2 s5 wx => ∃ (i f m : Nat) (ra : Option Addr) (R : List Int) (ps : List (Fld × Value)), s5 = .slice ra R.length m ∧ R.length ≤ m ∧ i + R.length ≤ L.length ∧ L.length ≤ i + R.length ∧ R.length < f ∧ ps.length ≤ 1024 ∧ Hid (Sl w ra m R) ∧ Hid (∀ x, x ∈ R → W8 x) ∧
    Hid (Res = fldsG f (ps.map Prod.fst) i R) ∧ Hid (RowB wx w.heap.size s2 ps) ∧ Below w.heap.size w wx ∧ R.length = g)
  case atStart => exact ⟨0, L.length + 1, c, a, L, [], rfl, hc, by omega, by omega, by omega, by simp, HR, HW, HD, RowB.nil _ _, Below.refl _ _, rfl⟩
  case round =>
    obtain ⟨i, f, m, ra, R, ps, rfl, hRm, hi1, hi2, hf, hps, hsl, hRw, hd, hrow, hb, rfl⟩ := hrel
    have hsz := hb.size
    obtain ⟨va, vc, rfl, hvc⟩ := hrow.out.form
    obtain ⟨f', rfl⟩ : ∃ f', f = f' + 1 := ⟨f - 1, by omega⟩
    by_cases h0 : R.length = 0
    · have hfin : Res = (ps.map Prod.fst, 0, 0) := by rw [hd.out, flds_end h0]
      have hlt : ¬ 0 < R.length := by omega
      have HFIN := Lib.hid hfin
      clear hd h0 hfin
      go_wp2
      go_ret3
      exact fldsR_ok HFIN.out hrow.out hb
    · have hpos : 0 < R.length := by omega
      by_cases h1 : ps.length = 1024
      · have hfin : Res = ([], (i : Int), 3) := by rw [hd.out, flds_limit h0 (by simp; omega)]
        have hq : ((ps.length : Int) == 1024) = true := by rw [h1]; rfl
        have HFIN := Lib.hid hfin
        clear hd h0 hfin h1
        go_wp2
        go_ret3
        exact fldsR_err HFIN.out (by omega) hb
      · have hq : ((ps.length : Int) == 1024) = false := by rw [beq_eq_false_iff_ne]; omega
        have cF := fun wx hs => code_first ra m R wx (by omega) hs hRw.out hRm
        rcases one_inv R hRw.out (by omega) with ⟨e0, ho, he⟩ | ⟨x, hx, ho, hle, -⟩
        · have hfin : Res = ([], (i : Int), e0) := by rw [hd.out, flds_err h0 (by simp; omega) ho he]
          rw [ho] at cF
          have h3 : (e0 != 0) = true := by simpa using he
          have h4 : (e0 == 0) = false := by simpa using he
          have HFIN := Lib.hid hfin
          clear hd h0 h1 ho he hfin
          go_wp2_with fail
          refine (cF _ (sl_below hsl.out hb)).mono ?_
          rintro e w2 ⟨v2, rfl, ho2, hb2⟩
          have hb3 := bnext hb hb2
          obtain ⟨a2, c2, rfl, -, -⟩ := ho2.sl
          clear cF hb2 ho2
          go_wp2
          go_ret3
          exact fldsR_err HFIN.out (by omega) (hb3.alloc hb3.size _)
        · have hd2 : Res = fldsG f' ((ps ++ [(x, Value.slice none 0 0)]).map Prod.fst) (i + (encF x).length) (R.drop (encF x).length) := by
            rw [hd.out, flds_next h0 (by simp; omega) ho]
            simp
          rw [ho] at cF
          have hps2 : ps.length + 1 ≤ 1024 := by omega
          have hs2 := encF_pos x
          have hlB := hx.2.2.2
          have hsl2 := fun wx => slice_from .i64 ra R.length m (encF x).length wx hle
          have HS2 := Lib.hid (sl_from hsl.out (encF x).length hRm)
          have HW2 := Lib.hid (drop_bytes hRw.out (encF x).length)
          have hlen : (R.drop (encF x).length).length = R.length - (encF x).length := List.length_drop
          generalize R.drop (encF x).length = R2 at *
          generalize (encF x).length = sz at *
          have HLEN := Lib.hid hlen
          have HD2 := Lib.hid hd2
          clear hd h0 h1 ho hd2 hlen
          go_wp2_with fail
          refine (cF _ (sl_below hsl.out hb)).mono ?_
          rintro e w2 ⟨v2, rfl, ho2, hb2⟩
          have hb3 := bnext hb hb2
          have hrow2 := hrow.out.below hb2
          obtain ⟨a2, c2, rfl, -, -⟩ := ho2.sl
          have HO2 := Lib.hid (ho2.base hsz)
          have HR2 := Lib.hid hrow2
          clear cF hb2 ho2 hrow hrow2
          go_wp2_with (at_builtin; refine wpList_append_own _ rfl _ _ 50 rfl w.heap.size 54 i0 (.agg #[.int .i64 0, .int .i64 0, .int .u64 0, .slice none 0 0]) 4 48 Try.underlying50 HI.out HZ0.out HZ1.out HZ2.out rfl (by decide) (.slice va ps.length vc) ps.length (row4 ps) rfl ((HR2.out.1.alloc _).alloc _) ⟨w2.heap.size + 1, 0, none⟩ 1 1 (cellsOf (x, .slice a2 x.bytes.length c2)) rfl rfl (cells_of_new _ (x, .slice a2 x.bytes.length c2) _ (by simp)) (cells_one (p := (x, .slice a2 x.bytes.length c2)) HO2.out) ?c1 ?c2 ?c3 ?_)
          case c1 => unfold maxLen; omega
          case c2 => omega
          case c3 => have := hb3.size; simp; omega
          intro v3 w3 hown3 hgrow3 _
          have HR3 := Lib.hid (RowB.step (p := (x, Value.slice a2 x.bytes.length c2)) (HR2.out.below ((Below.refl _ _).alloc (Nat.le_refl _) _)) (HO2.out.below ((Below.refl _ _).alloc (Nat.le_refl _) _)) hown3 hgrow3)
          have hb4 : Below w.heap.size w w3 := ((hb3.alloc hb3.size _).alloc (by have := hb3.size; simp; omega) _).grown hgrow3 (by have := hb3.size; simp; omega) (fun j hj => (HR2.out.1.lt j hj).1)
          clear hown3 hgrow3 HR2 HO2
          have HD3 : Hid (Res = fldsG f' ((ps ++ [(x, Value.slice a2 x.bytes.length c2)]).map Prod.fst) (i + sz) R2) := Lib.hid (HD2.out.trans (by simp))
          have h5 := HLEN.out
          have h6 : R2.length ≤ m - sz := by omega
          have h7 : i + sz + R2.length ≤ L.length := by omega
          have h8 : L.length ≤ i + sz + R2.length := by omega
          have h9 : R2.length < f' := by omega
          have h10 : R2.length < R.length := by omega
          have h11 : (ps ++ [(x, Value.slice a2 x.bytes.length c2)]).length ≤ 1024 := by rw [List.length_append, List.length_singleton]; omega
          clear h5 HD2
          go_wp2_with fail
          go_roundg R2.length
          case measure => exact h10
          case rel => exact ⟨i + sz, f', m - sz, fromA ra m sz, R2, _, by rw [HLEN.out], h6, h7, h8, h9, h11, HS2, HW2, HD3, HR3, hb4, rfl⟩
end Go.Proofs.Ytaaeepanelmgnaa
namespace Go.Proofs.Ytaaeepanelmgnaa
set_option maxRecDepth 100000
open Go.RowKit

theorem rread_err {a : Option Addr} {c : Nat} {L : List Int} {w : World} (hL : L.length ≤ 1000000) (hr : Sl w a c L) (hw : ∀ x, x ∈ L → W8 x) {e0 : Int} (h : rd 0 0 L = (0, 0, e0)) :
    Calls Try.prog 56 #[.slice a L.length c] w fun e w' => e = .returned (.tuple #[.int .u64 0, .int .i64 0, .int .i64 e0]) ∧ w = w' := by
  have := ref_read a c L w hL hr hw
  rw [h] at this
  exact this
theorem rread_ok {a : Option Addr} {c : Nat} {L : List Int} {w : World} (hL : L.length ≤ 1000000) (hr : Sl w a c L) (hw : ∀ x, x ∈ L → W8 x) {t : Int} {k : Nat} (h : rd 0 0 L = (t, (k : Int), 0)) :
    Calls Try.prog 56 #[.slice a L.length c] w fun e w' => e = .returned (.tuple #[.int .u64 t, .int .i64 (k : Int), .int .i64 0]) ∧ w = w' := by
  have := ref_read a c L w hL hr hw
  rw [h] at this
  exact this

theorem Cells4.far {w : World} {g : Nat} {c0 c1 c2 c3 : Value} (h : Cells4 w g c0 c1 c2 c3) {b o : Nat} (hp : b ≠ g) (u : Value) : Cells4 (w.setCell ⟨b, o, none⟩ u) g c0 c1 c2 c3 := by
  obtain ⟨h0, h1, h2, h3, hf⟩ := h
  exact ⟨(World.cell?_setCell_other _ _ _ _ (fun e => hp (congrArg Addr.block e))).trans h0, (World.cell?_setCell_other _ _ _ _ (fun e => hp (congrArg Addr.block e))).trans h1, (World.cell?_setCell_other _ _ _ _ (fun e => hp (congrArg Addr.block e))).trans h2, (World.cell?_setCell_other _ _ _ _ (fun e => hp (congrArg Addr.block e))).trans h3, fun o => (World.frozen?_setCell _ _ _ _).trans (hf o)⟩

set_option maxHeartbeats 2000000 in
set_option maxRecDepth 100000 in
theorem ref_one (a : Option Addr) (c : Nat) (L : List Int) (w : World) (hL : L.length ≤ 1000000) (hr : Sl w a c L) (hw : ∀ x, x ∈ L → W8 x) (hc : L.length ≤ c) :
    Calls Try.prog 40 #[.slice a L.length c] w (OneR w (onef L)) := by
  have hbn := (Below.refl w.heap.size w).alloc (Nat.le_refl _) (.cells #[.int .i64 0, .int .i64 0, .int .u64 0, .slice none 0 0] 54)
  rcases one_cases L hw with ⟨e0, h, he⟩ | ⟨t, h, ht0, ht1, hrd, hh0, hh10, hle, -, -, hcs⟩
  · rw [one_tag h he]
    have cS := rread_err hL (sl_below hr hbn) hw h
    have h1 : (e0 != 0) = true := by simpa using he
    have h2 : (e0 == 0) = false := by simpa using he
    clear h he
    go_enter Try.func40, Try.ntmps40
    go_wp2_with fail
    refine cS.mono ?_
    rintro e w1 ⟨rfl, rfl⟩
    clear cS
    go_wp2
    exact bodyPost_ret (v := .tuple #[.agg #[.int .i64 0, .int .i64 0, .int .u64 0, .slice none 0 0], .int .i64 0, .int .i64 e0]) (by simp [results, Try.results40, go_sem]) rfl (oneR_err hbn)
  have cS := rread_ok hL (sl_below hr hbn) hw hrd
  rcases hcs with hb | ⟨hg, hcs⟩
  · rw [one_bad hrd hb]
    unfold goodT at hb
    have HG := Lib.hid hb
    clear hrd hb
    go_enter Try.func40, Try.ntmps40
    go_wp2_with fail
    refine cS.mono ?_
    rintro e w1 ⟨rfl, rfl⟩
    clear cS
    go_wp2_with fail
    all_goals first
      | (exfalso; have hh := HG.out; clear HG; simp at *; omega)
      | exact bodyPost_ret (v := .tuple #[.agg #[.int .i64 0, .int .i64 0, .int .u64 0, .slice none 0 0], .int .i64 0, .int .i64 4]) (by simp [results, Try.results40, go_sem]) rfl (oneR_err hbn)
  obtain ⟨kd, hk, hkd⟩ : ∃ kd, t % 8 = kd ∧ (kd = 0 ∨ kd = 2) := ⟨_, rfl, hg.2.2⟩
  have HS := Lib.hid (sl_from hr h hc)
  have hsl := fun wx => slice_from .i64 a L.length c h wx hle
  have hbn2 : Below w.heap.size w ((w.alloc (.cells #[.int .i64 0, .int .i64 0, .int .u64 0, .slice none 0 0] 54)).alloc (.cells #[.int .i64 (t / 8), .int .i64 kd, .int .u64 0, .slice none 0 0] 54)) := hbn.alloc hbn.size _
  obtain ⟨g1, g2, -⟩ := id hg
  rcases hcs with ⟨e0, h2, he⟩ | ⟨n, k, hn, h2, hk0, hk10, hle2, -, -⟩
  · rw [one_len hrd hg h2 he]
    have cR : ∀ wx, Sl wx (fromA a c h) (c - h) (L.drop h) → Calls Try.prog 56 #[.slice (fromA a c h) (L.length - h) (c - h)] wx fun e w' => e = .returned (.tuple #[.int .u64 0, .int .i64 0, .int .i64 e0]) ∧ wx = w' := by
      intro wx hs
      have := rread_err (by rw [List.length_drop]; omega) hs (drop_bytes hw h) h2
      rw [List.length_drop] at this
      exact this
    have h1 : (e0 != 0) = true := by simpa using he
    have h2' : (e0 == 0) = false := by simpa using he
    clear h2 he hrd hg
    rcases hkd with rfl | rfl
    all_goals
      go_enter Try.func40, Try.ntmps40
      go_wp2_with fail
      refine cS.mono ?_
      rintro e w1 ⟨rfl, rfl⟩
      clear cS
      go_wp2_with fail
      refine (cR _ (sl_below HS.out hbn2)).mono ?_
      rintro e w2 ⟨rfl, rfl⟩
      clear cR
      go_wp2
      exact bodyPost_ret (v := .tuple #[.agg #[.int .i64 0, .int .i64 0, .int .u64 0, .slice none 0 0], .int .i64 0, .int .i64 e0]) (by simp [results, Try.results40, go_sem]) rfl (oneR_err hbn2)
  have cR : ∀ wx, Sl wx (fromA a c h) (c - h) (L.drop h) → Calls Try.prog 56 #[.slice (fromA a c h) (L.length - h) (c - h)] wx fun e w' => e = .returned (.tuple #[.int .u64 (n : Int), .int .i64 (k : Int), .int .i64 0]) ∧ wx = w' := by
    intro wx hs
    have := rread_ok (by rw [List.length_drop]; omega) hs (drop_bytes hw h) h2
    rw [List.length_drop] at this
    exact this
  have hn0 : 0 ≤ (n : Int) := by omega
  rcases hkd with rfl | rfl
  · rw [one_var hrd hg h2 hk]
    clear h2 hrd hg
    go_enter Try.func40, Try.ntmps40
    go_wp2_with fail
    refine cS.mono ?_
    rintro e w1 ⟨rfl, rfl⟩
    clear cS
    go_wp2_with fail
    refine (cR _ (sl_below HS.out hbn2)).mono ?_
    rintro e w2 ⟨rfl, rfl⟩
    clear cR
    go_wp2
    exact bodyPost_ret (v := .tuple #[.agg #[.int .i64 (t / 8), .int .i64 0, .int .u64 (n : Int), .slice none 0 0], .int .i64 ((h + k : Nat) : Int), .int .i64 0]) (by simp [results, Try.results40, go_sem]) rfl ⟨_, rfl, Own.nil _ _, ((Below.refl _ _).alloc (Nat.le_refl _) _).alloc (by simp) _⟩
  by_cases hs : n ≤ (L.drop (h + k)).length
  · rw [one_bytes hrd hg h2 hk hs]
    rw [List.length_drop] at hs
    have hlB : ((L.drop (h + k)).take n).length = n := by rw [List.length_take, List.length_drop]; omega
    have HS2 := Lib.hid (sl_take (sl_from hr (h + k) hc) n)
    have hsl3 : ∀ wx, (Instr.slice 39 (.slice a L.length c) (some (.int .i64 ((h : Int) + (k : Int)))) (some (.int .i64 ((h : Int) + (k : Int) + (n : Int)))) none).run Try.prog wx = .ok (.slice (fromA a c (h + k)) n (c - (h + k))) wx := fun wx => by
      have := slice_part .i64 .i64 a L.length c (h + k) (h + k + n) wx (by omega) (by omega)
      rw [Nat.add_sub_cancel_left] at this
      exact this
    generalize (L.drop (h + k)).take n = B at *
    subst hlB
    have hr2 : (B.length : Int) ≤ (L.length : Int) - (h : Int) - (k : Int) := by omega
    have hBL : B.length ≤ 1000000 := by omega
    obtain ⟨i0, hi, hz0, hz1, hz2⟩ := info_parts info5
    have HI := Lib.hid hi
    have HZ0 := Lib.hid hz0
    have HZ1 := Lib.hid hz1
    have HZ2 := Lib.hid hz2
    clear hi hz0 hz1 hz2 h2 hrd hg
    go_enter Try.func40, Try.ntmps40
    go_wp2_with fail
    refine cS.mono ?_
    rintro e w1 ⟨rfl, rfl⟩
    clear cS
    go_wp2_with fail
    refine (cR _ (sl_below HS.out hbn2)).mono ?_
    rintro e w2 ⟨rfl, rfl⟩
    clear cR
    obtain ⟨W2, hW2⟩ : ∃ W2, W2 = (w.alloc (.cells #[.int .i64 0, .int .i64 0, .int .u64 0, .slice none 0 0] 54)).alloc (.cells #[.int .i64 (t / 8), .int .i64 2, .int .u64 0, .slice none 0 0] 54) := ⟨_, rfl⟩
    have K0 : Cells4 W2 w.heap.size (.int .i64 0) (.int .i64 0) (.int .u64 0) (.slice none 0 0) := by rw [hW2]; exact (cells4_new w _ _ _ _).below ((Below.refl _ _).alloc (Nat.le_refl _) _)
    have K1 : Cells4 W2 (w.heap.size + 1) (.int .i64 (t / 8)) (.int .i64 2) (.int .u64 0) (.slice none 0 0) := by
      rw [hW2]
      have := cells4_new (w.alloc (.cells #[.int .i64 0, .int .i64 0, .int .u64 0, .slice none 0 0] 54)) (.int .i64 (t / 8)) (.int .i64 2) (.int .u64 0) (.slice none 0 0)
      simpa using this
    have hz : w.heap.size + 2 = W2.heap.size := by rw [hW2]; simp
    rw [← hW2] at hbn2 ⊢
    have HZ := Lib.hid hz
    clear hW2 hz
    have HS3 := Lib.hid (sl_below (sl_below HS2.out hbn2) ((Below.refl W2.heap.size W2).alloc (Nat.le_refl _) (.cells #[] 5)))
    go_wp2_with (at_builtin; refine append_src rfl _ _ 39 rfl W2.heap.size i0 Try.underlying39 HI.out HZ0.out HZ1.out HZ2.out _ 0 [] rfl (own_empty W2) (fromA a c (h + k)) B.length (c - (h + k)) B rfl rfl HS3.out ?c1 ?c2 ?_)
    case c1 => omega
    case c2 => simp
    intro v3 w3 ho3' hgrow
    have hb3 := after_append (w0 := W2) (Nat.le_refl _) (by simp) (own_empty W2) ((Below.refl _ W2).alloc (Nat.le_refl _) _) hgrow
    have ho3 : Own w3 W2.heap.size v3 B := by
      show w3.ownsRow _ _ _ _ _ _
      simpa using ho3'
    have K2 := Lib.hid (K0.below hb3)
    have K3 := Lib.hid (K1.below hb3)
    have hbl3 := bnext hbn2 hb3
    obtain ⟨a3, c3, rfl, -, -⟩ := Own.sl ho3
    clear K0 K1 hgrow ho3' hb3 HS HS2 HS3
    obtain ⟨k0, k1, k2, k3, kf⟩ := K3.out
    obtain ⟨j0, j1, j2, j3, jf⟩ := K2.out
    go_wp2_with fail
    clear k0 k1 k2 k3 kf j0 j1 j2 j3 jf
    have hzz := HZ.out
    have K4 := K2.out.far (b := w.heap.size + 1) (o := 3) (by omega) (.slice a3 B.length c3)
    have ho4 : Own (w3.setCell ⟨w.heap.size + 1, 3, none⟩ (.slice a3 B.length c3)) W2.heap.size (.slice a3 B.length c3) B := ownsRow_setCell_below ho3 (a := ⟨w.heap.size + 1, 3, none⟩) (by show w.heap.size + 1 < _; omega) _
    have hbl4 := hbl3.setCell (p := ⟨w.heap.size + 1, 3, none⟩) (by show w.heap.size ≤ w.heap.size + 1; omega) (.slice a3 B.length c3)
    generalize w3.setCell ⟨w.heap.size + 1, 3, none⟩ (.slice a3 B.length c3) = w4 at *
    obtain ⟨W3, hW3, KE3, hblE3, ho5, -⟩ := set4 K4 hbl4 (Nat.le_refl _) (.int .i64 (t / 8)) (.int .i64 2) (.int .u64 0) (.slice a3 B.length c3)
    rw [hW3]
    have hO := (ho5 _ _ _ ho4 (by omega)).base hbn2.size
    clear hW3 K4 hbl4 K2 K3
    obtain ⟨k0, k1, k2, k3, -⟩ := KE3
    exact bodyPost_ret (v := .tuple #[.agg #[.int .i64 (t / 8), .int .i64 2, .int .u64 0, .slice a3 B.length c3], .int .i64 ((h + k + B.length : Nat) : Int), .int .i64 0]) (by simp [results, Try.results40, go_sem, k0, k1, k2, k3]) rfl ⟨_, rfl, hO, hblE3⟩
  · rw [one_short hrd hg h2 hk (by omega)]
    rw [List.length_drop] at hs
    have hr2 : (L.length : Int) - (h : Int) - (k : Int) < (n : Int) := by omega
    clear h2 hrd hg hs
    go_enter Try.func40, Try.ntmps40
    go_wp2_with fail
    refine cS.mono ?_
    rintro e w1 ⟨rfl, rfl⟩
    clear cS
    go_wp2_with fail
    refine (cR _ (sl_below HS.out hbn2)).mono ?_
    rintro e w2 ⟨rfl, rfl⟩
    clear cR
    go_wp2
    exact bodyPost_ret (v := .tuple #[.agg #[.int .i64 0, .int .i64 0, .int .u64 0, .slice none 0 0], .int .i64 0, .int .i64 5]) (by simp [results, Try.results40, go_sem]) rfl (oneR_err hbn2)
end Go.Proofs.Ytaaeepanelmgnaa
namespace Go.Proofs.Ytaaeepanelmgnaa
set_option maxRecDepth 100000
open Go.RowKit

set_option maxHeartbeats 2000000 in
set_option maxRecDepth 100000 in
theorem ref_fields (a : Option Addr) (c : Nat) (L : List Int) (w : World) (hL : L.length ≤ 1000000) (hr : Sl w a c L) (hw : ∀ x, x ∈ L → W8 x) (hc : L.length ≤ c) :
    Calls Try.prog 26 #[.slice a L.length c] w (FldsR w (flds L)) := by
  obtain ⟨i0, hi, hz0, hz1, hz2⟩ := info_parts info25
  have HI := Lib.hid hi
  have HZ0 := Lib.hid hz0
  have HZ1 := Lib.hid hz1
  have HZ2 := Lib.hid hz2
  have HD : Hid (flds L = fldsG (L.length + 1) [] 0 (L.drop 0)) := rfl
  have HR := Lib.hid hr
  have HW := Lib.hid hw
  generalize flds L = Res at *
  clear hi hz0 hz1 hz2 hr hw
  go_enter Try.func26, Try.ntmps26
  go_wp2_with fail
  go_loopg [5, 6] L.length (fun g s2 s6 wx => ∃ (i f : Nat) (ps : List (Fld × Value)), s6 = .int .i64 (i : Int) ∧ i ≤ L.length ∧ L.length - i < f ∧ ps.length ≤ 1024 ∧
    Hid (Res = fldsG f (ps.map Prod.fst) i (L.drop i)) ∧ Hid (RowB wx w.heap.size s2 ps) ∧ Below w.heap.size w wx ∧ L.length - i = g)
  case atStart => exact ⟨0, L.length + 1, [], rfl, by omega, by omega, by simp, HD, RowB.nil _ _, Below.refl _ _, rfl⟩
  case round =>
    obtain ⟨i, f, ps, rfl, hi, hf, hps, hd, hrow, hb, rfl⟩ := hrel
    have hsz := hb.size
    obtain ⟨va, vc, rfl, hvc⟩ := hrow.out.form
    obtain ⟨f', rfl⟩ : ∃ f', f = f' + 1 := ⟨f - 1, by omega⟩
    have hlR : (L.drop i).length = L.length - i := List.length_drop
    by_cases h0 : L.length - i = 0
    · have hfin : Res = (ps.map Prod.fst, 0, 0) := by rw [hd.out, flds_end (by omega)]
      have hlt : ¬ i < L.length := by omega
      have HFIN := Lib.hid hfin
      clear hd h0 hfin hlR
      go_wp2
      go_ret3
      exact fldsR_ok HFIN.out hrow.out hb
    · have hpos : i < L.length := by omega
      by_cases h1 : ps.length = 1024
      · have hfin : Res = ([], (i : Int), 3) := by rw [hd.out, flds_limit (by omega) (by simp; omega)]
        have hq : (1024 : Int) ≤ (ps.length : Int) := by omega
        have HFIN := Lib.hid hfin
        clear hd h0 hfin h1 hlR
        go_wp2
        go_ret3
        exact fldsR_err HFIN.out rfl hb
      · have hq : ¬ (1024 : Int) ≤ (ps.length : Int) := by omega
        have hps2 : ps.length + 1 ≤ 1024 := by omega
        have HSR := Lib.hid (sl_from HR.out i hc)
        have hRw := Lib.hid (drop_bytes HW.out i)
        have cF : ∀ wx, Sl wx (fromA a c i) (c - i) (L.drop i) → Calls Try.prog 40 #[.slice (fromA a c i) (L.length - i) (c - i)] wx (OneR wx (onef (L.drop i))) := fun wx hs => by
          have := ref_one (fromA a c i) (c - i) (L.drop i) wx (by omega) hs hRw.out (by omega)
          rw [hlR] at this
          exact this
        have hsl := fun wx => slice_from .i64 a L.length c i wx hi
        rcases one_inv (L.drop i) hRw.out (by omega) with ⟨e0, ho, he⟩ | ⟨x, hx, ho, hle, -⟩
        · have hfin : Res = ([], (i : Int), e0) := by rw [hd.out, flds_err (by omega) (by simp; omega) ho he]
          rw [ho] at cF
          have h3 : (e0 != 0) = true := by simpa using he
          have h4 : (e0 == 0) = false := by simpa using he
          have HFIN := Lib.hid hfin
          clear hd h0 h1 ho he hfin hlR
          go_wp2_with fail
          refine (cF _ (sl_below HSR.out hb)).mono ?_
          rintro e w2 ⟨v2, rfl, ho2, hb2⟩
          have hb3 := bnext hb hb2
          obtain ⟨a2, c2, rfl, -, -⟩ := ho2.sl
          clear cF hb2 ho2
          go_wp2
          go_ret3
          exact fldsR_err HFIN.out rfl (hb3.alloc hb3.size _)
        · have hd2 : Res = fldsG f' ((ps ++ [(x, Value.slice none 0 0)]).map Prod.fst) (i + (encF x).length) (L.drop (i + (encF x).length)) := by
            rw [hd.out, flds_next (by omega) (by simp; omega) ho, List.drop_drop]
            simp
          rw [ho] at cF
          have hs2 := encF_pos x
          have hlB := hx.2.2.2
          rw [hlR] at hle
          generalize (encF x).length = sz at *
          have HD2 := Lib.hid hd2
          clear hd h0 h1 ho hd2 hlR
          go_wp2_with fail
          refine (cF _ (sl_below HSR.out hb)).mono ?_
          rintro e w2 ⟨v2, rfl, ho2, hb2⟩
          have hb3 := bnext hb hb2
          have hrow2 := hrow.out.below hb2
          obtain ⟨a2, c2, rfl, -, -⟩ := ho2.sl
          have HO2 := Lib.hid (ho2.base hsz)
          have HR2 := Lib.hid hrow2
          clear cF hb2 ho2 hrow hrow2
          go_wp2_with (at_builtin; refine wpList_append_own _ rfl _ _ 50 rfl w.heap.size 54 i0 (.agg #[.int .i64 0, .int .i64 0, .int .u64 0, .slice none 0 0]) 4 48 Try.underlying50 HI.out HZ0.out HZ1.out HZ2.out rfl (by decide) (.slice va ps.length vc) ps.length (row4 ps) rfl ((HR2.out.1.alloc _).alloc _) ⟨w2.heap.size + 1, 0, none⟩ 1 1 (cellsOf (x, .slice a2 x.bytes.length c2)) rfl rfl (cells_of_new _ (x, .slice a2 x.bytes.length c2) _ (by simp)) (cells_one (p := (x, .slice a2 x.bytes.length c2)) HO2.out) ?c1 ?c2 ?c3 ?_)
          case c1 => unfold maxLen; omega
          case c2 => omega
          case c3 => have := hb3.size; simp; omega
          intro v3 w3 hown3 hgrow3 _
          have HR3 := Lib.hid (RowB.step (p := (x, Value.slice a2 x.bytes.length c2)) (HR2.out.below ((Below.refl _ _).alloc (Nat.le_refl _) _)) (HO2.out.below ((Below.refl _ _).alloc (Nat.le_refl _) _)) hown3 hgrow3)
          have hb4 : Below w.heap.size w w3 := ((hb3.alloc hb3.size _).alloc (by have := hb3.size; simp; omega) _).grown hgrow3 (by have := hb3.size; simp; omega) (fun j hj => (HR2.out.1.lt j hj).1)
          clear hown3 hgrow3 HR2 HO2
          have HD3 : Hid (Res = fldsG f' ((ps ++ [(x, Value.slice a2 x.bytes.length c2)]).map Prod.fst) (i + sz) (L.drop (i + sz))) := Lib.hid (HD2.out.trans (by simp))
          have h7 : i + sz ≤ L.length := by omega
          have h9 : L.length - (i + sz) < f' := by omega
          have h10 : L.length - (i + sz) < L.length - i := by omega
          have h11 : (ps ++ [(x, Value.slice a2 x.bytes.length c2)]).length ≤ 1024 := by rw [List.length_append, List.length_singleton]; omega
          clear HD2
          go_wp2_with fail
          go_roundg (L.length - (i + sz))
          case measure => exact h10
          case rel => exact ⟨i + sz, f', _, by go_num, h7, h9, h11, HD3, HR3, hb4, rfl⟩
end Go.Proofs.Ytaaeepanelmgnaa
namespace Go.Proofs.Ytaaeepanelmgnaa
set_option maxRecDepth 100000
open Go.RowKit

/-- 'append' to a row of the call's own, from whatever source, inside a region that draws its order. -/
theorem step_append_src {P : Program} {w : World} {ops : Array Oper} {o : Oper} {a : Act} {K : Act → World → Prop} {Q : Exit → Act → World → Prop} {E : Prop} (hgd : o.guard = none) (s x : Operand) (t : TypeId)
    (ho : o.op = .call { callee := .builtin .append, args := #[s, x], argTypes := #[t, t] })
    (base : Nat) (i : TypeInfo) (ht : P.underlying t = some (.slice 5)) (hi : P.info? 5 = some i) (hz : i.zero = some (.int .u8 0)) (hsize : i.size = 1) (hby : i.bytes = 1)
    (v : Value) (n : Nat) (xs : List Value) (hs : a.eval s = v) (hown : w.ownsRow base 5 1 v n xs)
    (ad : Option Addr) (m c : Nat) (L : List Int) (hx : a.eval x = .slice ad m c) (hm : L.length = m) (hr : Sl w ad c L) (hb : n + m ≤ 140737488355328) (hbase : base ≤ w.heap.size)
    (h : ∀ v' w', w'.ownsRow base 5 1 v' (n + m) (xs ++ L.map (Value.int .u8)) → w.grownBy w' v.ownBlock → K (a.put o.dst v') w') :
    if Region.wanted o (yielded ops a.tmps) = true then Oper.wp P o a w K Q else E := by
  have hw : Region.wanted o (yielded ops a.tmps) = true := by simp [Region.wanted, hgd]
  rw [if_pos hw]
  subst hm
  rcases hr with ⟨rfl, rfl, rfl⟩ | ⟨y, rfl, hy⟩
  · have hrun := run_append_owned_none (P := P) (w := w) base t o.type 5 i 1 ht hi v n xs hown
    unfold Oper.wp
    simp [execOp, ho, resolve, invoke, builtin, hs, hx, hrun, Result.andThen]
    exact h v w (by simpa using hown) (World.grownBy.refl w _)
  · refine wp_append_own w s x t ho base 5 i (.int .u8 0) 1 1 ht hi hz hsize hby rfl (by decide) v n xs hs hown y L.length c (L.map (Value.int .u8)) hx (by simp) ?_ (ints_oneCell _ _) (by unfold maxLen; omega) (by omega) hbase (fun v' w' h1 h2 _ => h v' w' h1 h2)
    intro j u hj
    have hj' : j < L.length := by
      rcases Nat.lt_or_ge j L.length with h | h
      · exact h
      · rw [List.getElem?_eq_none (by simpa using h)] at hj; cases hj
    obtain ⟨b, off, rfl, hc⟩ := hy j hj'
    rw [Go.WideShapes.add_plain, hc]
    rw [List.getElem?_map, List.getElem?_eq_getElem hj'] at hj
    rw [List.getD_eq_getElem?_getD, List.getElem?_eq_getElem hj']
    exact hj

theorem far_own {w w' : World} {B g o n : Nat} {v u : Value} {xs : List Value} (hgrow : w.grownBy w' v.ownBlock) (ho : w.ownsRow B 5 1 v n xs) (hg : g < B) (hc : w.cell? ⟨g, o, none⟩ = some u) : w'.cell? ⟨g, o, none⟩ = some u := by
  refine hgrow.cell hc (fun e => ?_)
  have := (ho.lt _ e.symm).1
  simp only at this
  omega

set_option maxHeartbeats 2000000 in
theorem ref_field_bad (a : Option Addr) (len c : Nat) (num kind val : Int) (b : Option Addr) (n d : Nat) (w : World) (hv : ¬ Vfi num kind val n) :
    Calls Try.prog 41 #[.slice a len c, .agg #[.int .i64 num, .int .i64 kind, .int .u64 val, .slice b n d]] w fun e w' => e = .returned (.tuple #[.slice none 0 0, .int .i64 1]) ∧ Below w.heap.size w w' := by
  have cV := ref_right num kind val b n d
  rw [vldB_false hv] at cV
  go_enter Try.func41, Try.ntmps41
  go_wp2_with fail
  refine (cV _).mono ?_
  rintro e w1 ⟨rfl, hb1⟩
  have hb := bnext ((Below.refl _ w).alloc (Nat.le_refl _) (.cells #[.int .i64 num, .int .i64 kind, .int .u64 val, .slice b n d] 54)) hb1
  clear cV hb1
  go_wp2
  go_ret2
  exact ⟨rfl, hb⟩

set_option maxHeartbeats 2000000 in
theorem ref_field (a : Option Addr) (c : Nat) (L : List Int) (num kind val : Int) (b : Option Addr) (d : Nat) (B : List Int) (w : World) (hL : L.length ≤ 900000) (hB : B.length ≤ 1000000) (hr : Sl w a c L) (hs : Sl w b d B) (hv : Vfi num kind val B.length) (hw : W64 val) :
    Calls Try.prog 41 #[.slice a L.length c, .agg #[.int .i64 num, .int .i64 kind, .int .u64 val, .slice b B.length d]] w fun e w' => ∃ v, e = .returned (.tuple #[v, .int .i64 0]) ∧ Own w' w.heap.size v (L ++ encI num kind val B) ∧ Below w.heap.size w w' := by
  have cV := ref_right num kind val b B.length d
  rw [vldB_true hv] at cV
  have hn0 := hv.1
  have hn1 := hv.2.1
  have htb : W64 (8 * num + kind) := by unfold W64; unfold Vfi at hv; omega
  have cA := fun w hr => ref_append a c L (8 * num + kind) w (by omega) hr htb
  have hEl := Enc_len (8 * num + kind)
  have hfin : L ++ encI num kind val B = ((L ++ Enc (8 * num + kind)) ++ Enc (secI kind val B.length)) ++ B := by simp [encI]
  have hlen : (L ++ Enc (8 * num + kind)).length ≤ 1000000 := by rw [List.length_append]; omega
  have hx0 := box_new w num kind val b B.length d
  have hb0 := (Below.refl _ w).alloc (Nat.le_refl _) (.cells #[.int .i64 num, .int .i64 kind, .int .u64 val, .slice b B.length d] 54)
  rcases hv.2.2 with ⟨rfl, hb⟩ | ⟨rfl, rfl⟩
  · obtain rfl : B = [] := List.eq_nil_of_length_eq_zero hb
    have hsec : secI 0 val ([] : List Int).length = val := rfl
    rw [hsec, List.append_nil] at hfin
    have cB := fun a c w hr => ref_append a c (L ++ Enc (8 * num + 0)) val w hlen hr hw
    have e8 : 8 * num + 0 = num * 8 := by omega
    rw [e8] at cA hEl hlen hfin
    simp only [e8] at cB
    clear e8 htb
    generalize Enc (num * 8) = E1 at *
    generalize L ++ E1 = M at *
    generalize Enc val = E2 at *
    have HFIN := Lib.hid hfin
    have HR := Lib.hid hr
    clear hfin hr hs hv hsec hb
    go_enter Try.func41, Try.ntmps41
    go_wp2_with fail
    refine (cV _).mono ?_
    rintro e w1 ⟨rfl, hb1⟩
    have hx := hx0.below hb1
    have hb := bnext hb0 hb1
    obtain ⟨k0, k1, k2, k3⟩ := hx
    have k1' : w1.cell? ⟨w.heap.size, 1, none⟩ = some (.int .i64 0) := k1
    have k2' : w1.cell? ⟨w.heap.size, 2, none⟩ = some (.int .u64 val) := k2
    have hlt : w.heap.size < w1.heap.size := Box.lt ⟨k0, k1, k2, k3⟩
    clear cV hb1 k1 k2 k3 hx0 hb0
    go_wp2_with fail
    refine (cA _ (sl_below HR.out hb)).mono ?_
    rintro e w2 ⟨v2, rfl, ho2, hb2⟩
    have hb3 := bnext hb hb2
    have k2 := (hb2.cell (p := ⟨w.heap.size, 2, none⟩) hlt).trans k2'
    have k1 := (hb2.cell (p := ⟨w.heap.size, 1, none⟩) hlt).trans k1'
    obtain ⟨a2, c2, rfl, s2, -⟩ := Own.sl ho2
    clear k1' k2' k0 hb hb2 ho2 cA
    go_wp2_with fail
    refine (cB _ _ _ s2).mono ?_
    rintro e w3 ⟨v3, rfl, ho3, hb4⟩
    have hb5 := bnext hb3 hb4
    have HO : Hid (Own w3 w.heap.size v3 (L ++ encI num 0 val [])) := by rw [HFIN.out]; exact Lib.hid (Own.base ho3 hb3.size)
    clear cB ho3 hb4 s2
    go_wp2
    go_ret2
    exact ⟨_, rfl, HO.out, hb5⟩
  · have hsec : secI 2 0 B.length = (B.length : Int) := rfl
    rw [hsec] at hfin
    have hwB : W64 (B.length : Int) := by unfold W64; omega
    have cB := fun a c w hr => ref_append a c (L ++ Enc (8 * num + 2)) (B.length : Int) w hlen hr hwB
    have hE2 := Enc_len (B.length : Int)
    have e8 : 8 * num + 2 = num * 8 + 2 := by omega
    rw [e8] at cA hEl hlen hfin
    simp only [e8] at cB
    clear e8 htb
    generalize Enc (num * 8 + 2) = E1 at *
    generalize L ++ E1 = M at *
    have HFIN := Lib.hid hfin
    have HR := Lib.hid hr
    have HS := Lib.hid hs
    have hM2 : (M ++ Enc (B.length : Int)).length ≤ 2000000 := by rw [List.length_append]; omega
    generalize M ++ Enc (B.length : Int) = M2 at *
    obtain ⟨i0, hi, hz0, hz1, hz2⟩ := info_parts info5
    have HI := Lib.hid hi
    have HZ0 := Lib.hid hz0
    have HZ1 := Lib.hid hz1
    have HZ2 := Lib.hid hz2
    clear hfin hr hs hv hsec hi hz0 hz1 hz2 hE2
    go_enter Try.func41, Try.ntmps41
    go_wp2_with fail
    refine (cV _).mono ?_
    rintro e w1 ⟨rfl, hb1⟩
    have hx := hx0.below hb1
    have hb := bnext hb0 hb1
    obtain ⟨k0, k1, k2, k3⟩ := hx
    have k1' : w1.cell? ⟨w.heap.size, 1, none⟩ = some (.int .i64 2) := k1
    have k3' : w1.cell? ⟨w.heap.size, 3, none⟩ = some (.slice b B.length d) := k3
    have hlt : w.heap.size < w1.heap.size := Box.lt ⟨k0, k1, k2, k3⟩
    clear cV hb1 k1 k2 k3 hx0 hb0
    go_wp2_with fail
    refine (cA _ (sl_below HR.out hb)).mono ?_
    rintro e w2 ⟨v2, rfl, ho2, hb2⟩
    have hb3 := bnext hb hb2
    have k3 := (hb2.cell (p := ⟨w.heap.size, 3, none⟩) hlt).trans k3'
    have k1 := (hb2.cell (p := ⟨w.heap.size, 1, none⟩) hlt).trans k1'
    have hlt2 : w.heap.size < w2.heap.size := Nat.lt_of_lt_of_le hlt hb2.size
    obtain ⟨a2, c2, rfl, s2, -⟩ := Own.sl ho2
    clear k1' k3' k0 hb hb2 ho2 cA
    go_wp2_with fail
    have hc1 : M2.length + B.length ≤ 140737488355328 := by omega
    have hwr : IntKind.u64.wrap (B.length : Int) = (B.length : Int) := by rw [IntKind.wrap_u64]; omega
    go_region_held3 (fun wx => wx.cell? ⟨w.heap.size, 3, none⟩ = some (.slice b B.length d)) (first | exact k6 | exact k5 | exact k3) (first
      | (go_at_call 58; refine (cB _ _ w2.drew s2).mono ?_; rintro e w5 ⟨v5, rfl, ho5, hb5⟩; have k5 := (hb5.cell (p := ⟨w.heap.size, 3, none⟩) hlt2).trans k3; have hb6 := bnext hb3.drew hb5)
      | (refine step_append_src rfl _ _ 39 rfl w2.heap.size i0 Try.underlying39 HI.out HZ0.out HZ1.out HZ2.out _ _ _ rfl ho5 b B.length d B rfl rfl (sl_below HS.out hb6) hc1 hb5.size ?_; intro v6 w6 ho6 hgrow; have hb7 := after_append (w0 := w) hb3.size hb6.size ho5 hb6 hgrow; have k6 := far_own hgrow ho5 hlt2 k5))
    have HO : Hid (Own w6 w.heap.size v6 (L ++ encI num 2 0 B)) := by
      rw [HFIN.out]
      show w6.ownsRow _ _ _ _ _ _
      rw [List.length_append, List.map_append]
      exact own_base ho6 hb3.size
    clear cB ho6 hgrow hb6 s2 ho5 hb5
    go_wp2
    go_ret2
    exact ⟨_, rfl, HO.out, hb7⟩

end Go.Proofs.Ytaaeepanelmgnaa
namespace Go.Proofs.Ytaaeepanelmgnaa
set_option maxRecDepth 100000
open Go.RowKit

/-- A slice of fields at a reads as the list ps: each field's cells, and its bytes. -/
def Fs (w : World) (a : Option Addr) (ps : List (Fld × Value)) : Prop :=
  ∀ i p, ps[i]? = some p → ∃ b off ba bc, a = some ⟨b, off, none⟩ ∧ p.2 = .slice ba p.1.bytes.length bc ∧ Sl w ba bc p.1.bytes ∧ Box w b (off + i * 4) p.1.num p.1.kind p.1.val ba p.1.bytes.length bc

/-- The number of fields and of their bytes. -/
def bulkF (ps : List (Fld × Value)) : Nat := ps.length + (ps.map fun p => p.1.bytes.length).sum

theorem sum_take (l : List Nat) (k : Nat) (h : k < l.length) : (l.take (k + 1)).sum = (l.take k).sum + l[k] := by
  rw [List.take_succ_eq_append_getElem h, List.sum_append]
  simp
theorem sum_take_le (l : List Nat) (k : Nat) : (l.take k).sum ≤ l.sum := by
  have h : l.sum = (l.take k).sum + (l.drop k).sum := by rw [← List.sum_append, List.take_append_drop]
  omega

end Go.Proofs.Ytaaeepanelmgnaa
namespace Go.Proofs.Ytaaeepanelmgnaa
set_option maxRecDepth 100000
open Go.RowKit

theorem RowB.fs {w : World} {B : Nat} {v : Value} {ps : List (Fld × Value)} (h : RowB w B v ps) : ∃ a c, v = .slice a ps.length c ∧ ps.length ≤ c ∧ Fs w a ps := by
  obtain ⟨a, c, rfl, hc⟩ := h.form
  refine ⟨a, c, rfl, hc, fun i p hi => ?_⟩
  have hlt : i < ps.length := (List.getElem?_eq_some_iff.1 hi).1
  obtain ⟨g, rfl, hg, hgl⟩ := own_at h.1 (by omega)
  obtain ⟨ba, bc, hb, hs, -⟩ := (h.2 p (List.mem_of_getElem? hi)).sl
  refine ⟨g, 0, ba, bc, rfl, hb, hs, ?_, ?_, ?_, ?_⟩
  · rw [h.1.cellAt _ (by omega), show 0 + i * 4 = i * 4 + 0 by omega, row4_get ps i 0 p hi (by omega)]
    rfl
  · rw [h.1.cellAt _ (by omega), show 0 + i * 4 + 1 = i * 4 + 1 by omega, row4_get ps i 1 p hi (by omega)]
    rfl
  · rw [h.1.cellAt _ (by omega), show 0 + i * 4 + 2 = i * 4 + 2 by omega, row4_get ps i 2 p hi (by omega)]
    rfl
  · rw [h.1.cellAt _ (by omega), show 0 + i * 4 + 3 = i * 4 + 3 by omega, row4_get ps i 3 p hi (by omega)]
    simp only [cellsOf, List.getElem?_cons_succ, List.getElem?_cons_zero, hb]
theorem Fs.below {w w' : World} {a : Option Addr} {ps : List (Fld × Value)} (h : Fs w a ps) (hb : Below w.heap.size w w') : Fs w' a ps := by
  intro i p hi
  obtain ⟨b, off, ba, bc, h1, h2, h3, h4⟩ := h i p hi
  exact ⟨b, off, ba, bc, h1, h2, sl_below h3 hb, h4.below hb⟩

def f1 : Fld := ⟨1, 0, 300, []⟩
def f2 : Fld := ⟨2, 2, 0, [97, 98]⟩
theorem vf1 : Vf f1 := ⟨⟨by decide, by decide, .inl ⟨rfl, rfl⟩⟩, ⟨by decide, by decide⟩, by simp [f1], by simp [f1]⟩
theorem vf2 : Vf f2 := ⟨⟨by decide, by decide, .inr ⟨rfl, rfl⟩⟩, ⟨by decide, by decide⟩, by simp [f2], by simp [f2]⟩
theorem e1 : encI 1 0 300 [] = [8, 172, 2] := by decide +kernel
theorem e2 : [8, 172, 2] ++ encI 2 2 0 [97, 98] = [8, 172, 2, 18, 2, 97, 98] := by decide +kernel
theorem r1 : flds [8, 172, 2, 18, 2, 97, 98] = ([f1, f2], 0, 0) := by
  have h := flds_enc [f1, f2] 8 [] 0 (by intro x hx; simp at hx; rcases hx with rfl | rfl; exact vf1; exact vf2) (by simp) (by decide +kernel)
  have he : [f1, f2].flatMap encF = [8, 172, 2, 18, 2, 97, 98] := by decide +kernel
  rw [he] at h
  exact h
def f3 : Fld := ⟨1, 0, 1, []⟩
theorem vf3 : Vf f3 := ⟨⟨by decide, by decide, .inl ⟨rfl, rfl⟩⟩, ⟨by decide, by decide⟩, by simp [f3], by simp [f3]⟩
theorem r2 : flds [8, 1, 18, 2, 97] = ([], 2, 5) := by
  have he : encF f3 = [8, 1] := by decide +kernel
  have h1 := one_enc f3 vf3 [18, 2, 97]
  rw [he] at h1
  have h2 : onef [18, 2, 97] = (zeroF, 0, 5) := one_short (t := 18) (n := 2) (h := 1) (k := 1) (by decide +kernel) (by unfold goodT; omega) (by decide +kernel) (by omega) (by decide)
  have h3 : flds [8, 1, 18, 2, 97] = fldsG 5 ([] ++ [f3]) (0 + 2) ([8, 1, 18, 2, 97].drop 2) := flds_next (by decide) (by decide) h1
  rw [h3]
  exact flds_err (by decide) (by decide) h2 (by omega)
theorem z2 : szB 2 = 4 := by decide +kernel

theorem kap1 (w : World) : Calls Try.prog 60 #[.slice none 0 0, .agg #[.int .i64 1, .int .i64 0, .int .u64 300, .slice none 0 0]] w fun e w' => ∃ v, e = .returned (.tuple #[v, .int .i64 0]) ∧ Own w' w.heap.size v [8, 172, 2] ∧ Below w.heap.size w w' := by
  have h := code_wappend none 0 [] 1 0 300 none 0 [] w (by simp) (by simp) (.inl ⟨rfl, rfl, rfl⟩) (.inl ⟨rfl, rfl, rfl⟩) vf1.1 ⟨by decide, by decide⟩
  rw [e1] at h
  exact h
theorem sl_mark (w : World) (fr : Nat × Nat) : Sl (w.alloc (.cells #[.int .u8 97, .int .u8 98] 5 fr)) (some ⟨w.heap.size, 0, none⟩) 2 [97, 98] := by
  refine .inr ⟨_, rfl, fun k hk => ⟨_, _, rfl, ?_⟩⟩
  rw [Nat.zero_add, cell_of_row _ w.heap.size k _ 5 fr (heap_alloc_new w _)]
  match k, hk with
  | 0, _ => rfl
  | 1, _ => rfl
theorem kap2 (w : World) (a : Option Addr) (c g : Nat) (fr : Nat × Nat) (hg : g = w.heap.size) (hs : Sl w a c [8, 172, 2]) : Calls Try.prog 60 #[.slice a 3 c, .agg #[.int .i64 2, .int .i64 2, .int .u64 0, .slice (some ⟨g, 0, none⟩) 2 2]] (w.alloc (.cells #[.int .u8 97, .int .u8 98] 5 fr)) fun e w' => ∃ v, e = .returned (.tuple #[v, .int .i64 0]) ∧ Own w' (w.alloc (.cells #[.int .u8 97, .int .u8 98] 5 fr)).heap.size v [8, 172, 2, 18, 2, 97, 98] ∧ Below (w.alloc (.cells #[.int .u8 97, .int .u8 98] 5 fr)).heap.size (w.alloc (.cells #[.int .u8 97, .int .u8 98] 5 fr)) w' := by
  subst hg
  have h := code_wappend a c [8, 172, 2] 2 2 0 (some ⟨w.heap.size, 0, none⟩) 2 [97, 98] (w.alloc (.cells #[.int .u8 97, .int .u8 98] 5 fr)) (by simp) (by simp) (sl_below hs ((Below.refl _ _).alloc (Nat.le_refl _) _)) (sl_mark w fr) vf2.1 ⟨by decide, by decide⟩
  rw [e2] at h
  exact h
theorem kfl1 (w : World) (a : Option Addr) (c : Nat) (hs : Sl w a c [8, 172, 2, 18, 2, 97, 98]) (hc : 7 ≤ c) : Calls Try.prog 51 #[.slice a 7 c] w fun e w' => ∃ g c1, e = .returned (.tuple #[.slice (some ⟨g, 0, none⟩) 2 c1, .int .i64 0, .int .i64 0]) ∧ w'.cell? ⟨g, 2, none⟩ = some (.int .u64 300) ∧ Below w.heap.size w w' := by
  have h := code_fields a c [8, 172, 2, 18, 2, 97, 98] w (by simp) hs (by simp [W8]) hc
  rw [r1] at h
  refine h.mono ?_
  rintro e w' ⟨v, ps, rfl, hps, hr, hb⟩
  obtain ⟨a1, c1, rfl, -, hF⟩ := hr.fs
  have hl : ps.length = 2 := by have := congrArg List.length hps; simpa using this
  match ps, hl with
  | [p, q], _ =>
    simp only [List.map_cons, List.map_nil, List.cons.injEq, and_true] at hps
    obtain ⟨b, off, ba, bc, rfl, -, -, hx⟩ := hF 0 p rfl
    obtain ⟨g, hg, -, -⟩ := own_at hr.1 (by simp)
    simp only [Option.some.injEq, Addr.mk.injEq, and_true] at hg
    obtain ⟨rfl, rfl⟩ := hg
    refine ⟨b, c1, rfl, ?_, hb⟩
    have := hx.2.2.1
    rw [hps.1] at this
    simpa [f1] using this
theorem kfl2 (w : World) (g : Nat) (hg : g = w.heap.size) : Calls Try.prog 51 #[.slice (some ⟨g, 0, none⟩) 5 5] (w.alloc (.cells #[.int .u8 8, .int .u8 1, .int .u8 18, .int .u8 2, .int .u8 97] 5)) fun e w' => ∃ v, e = .returned (.tuple #[v, .int .i64 2, .int .i64 5]) ∧ Below (w.alloc (.cells #[.int .u8 8, .int .u8 1, .int .u8 18, .int .u8 2, .int .u8 97] 5)).heap.size (w.alloc (.cells #[.int .u8 8, .int .u8 1, .int .u8 18, .int .u8 2, .int .u8 97] 5)) w' := by
  subst hg
  have h := code_fields (some ⟨w.heap.size, 0, none⟩) 5 [8, 1, 18, 2, 97] _ (by simp) (sl_new w [8, 1, 18, 2, 97] 5) (by simp [W8]) (by simp)
  rw [r2] at h
  refine h.mono ?_
  rintro e w' ⟨v, ps, rfl, -, -, hb⟩
  exact ⟨v, rfl, hb⟩
end Go.Proofs.Ytaaeepanelmgnaa
