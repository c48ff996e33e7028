/-
  The plain arithmetic of messages: the encoding of a field as a list of bytes, what is read as one field, and what is read as a message.
  Conditions: none of their own.
-/
import Derived.Test.YtaaeepanelmgnaaVAr
namespace Go.Proofs.Ytaaeepanelmgnaa
set_option maxRecDepth 100000
open Go

/-- A field. -/
structure Fld where
  num : Int
  kind : Int
  val : Int
  bytes : List Int

/-- The number behind the tag. -/
def secI (kind val : Int) (n : Nat) : Int := if kind = 2 then (n : Int) else val
/-- The field is valid: by its number, its kind, its value and the number of its bytes. -/
def Vfi (num kind val : Int) (n : Nat) : Prop := 1 ≤ num ∧ num ≤ 536870911 ∧ ((kind = 0 ∧ n = 0) ∨ (kind = 2 ∧ val = 0))
/-- The encoding of a field. -/
def encI (num kind val : Int) (B : List Int) : List Int := Enc (8 * num + kind) ++ (Enc (secI kind val B.length) ++ B)
def encF (f : Fld) : List Int := encI f.num f.kind f.val f.bytes
/-- A valid field whose value has 64 bits and whose bytes are bytes, not too many. -/
def Vf (f : Fld) : Prop := Vfi f.num f.kind f.val f.bytes.length ∧ (0 ≤ f.val ∧ f.val ≤ 18446744073709551615) ∧ (∀ x, x ∈ f.bytes → 0 ≤ x ∧ x ≤ 255) ∧ f.bytes.length ≤ 1000000

def zeroF : Fld := ⟨0, 0, 0, []⟩
/-- What is read as one field at the beginning of L: the field, its size, the error. -/
def onef (L : List Int) : Fld × Int × Int :=
  if (rd 0 0 L).2.2 ≠ 0 then (zeroF, 0, (rd 0 0 L).2.2) else
  if (rd 0 0 L).1 / 8 < 1 ∨ 536870911 < (rd 0 0 L).1 / 8 ∨ ((rd 0 0 L).1 % 8 ≠ 0 ∧ (rd 0 0 L).1 % 8 ≠ 2) then (zeroF, 0, 4) else
  if (rd 0 0 (L.drop (rd 0 0 L).2.1.toNat)).2.2 ≠ 0 then (zeroF, 0, (rd 0 0 (L.drop (rd 0 0 L).2.1.toNat)).2.2) else
  if (rd 0 0 L).1 % 8 = 0 then (⟨(rd 0 0 L).1 / 8, 0, (rd 0 0 (L.drop (rd 0 0 L).2.1.toNat)).1, []⟩, (rd 0 0 L).2.1 + (rd 0 0 (L.drop (rd 0 0 L).2.1.toNat)).2.1, 0) else
  if ((L.drop ((rd 0 0 L).2.1.toNat + (rd 0 0 (L.drop (rd 0 0 L).2.1.toNat)).2.1.toNat)).length : Int) < (rd 0 0 (L.drop (rd 0 0 L).2.1.toNat)).1 then (zeroF, 0, 5) else
  (⟨(rd 0 0 L).1 / 8, 2, 0, (L.drop ((rd 0 0 L).2.1.toNat + (rd 0 0 (L.drop (rd 0 0 L).2.1.toNat)).2.1.toNat)).take (rd 0 0 (L.drop (rd 0 0 L).2.1.toNat)).1.toNat⟩,
    (rd 0 0 L).2.1 + (rd 0 0 (L.drop (rd 0 0 L).2.1.toNat)).2.1 + (rd 0 0 (L.drop (rd 0 0 L).2.1.toNat)).1, 0)

/-- The tag's number and kind are those of a field. -/
def goodT (t : Int) : Prop := 1 ≤ t / 8 ∧ t / 8 ≤ 536870911 ∧ (t % 8 = 0 ∨ t % 8 = 2)

theorem one_tag {L : List Int} {a s e : Int} (h : rd 0 0 L = (a, s, e)) (he : e ≠ 0) : onef L = (zeroF, 0, e) := by
  unfold onef; rw [h]; rw [if_pos he]
theorem one_bad {L : List Int} {t s : Int} (h : rd 0 0 L = (t, s, 0)) (hb : ¬ goodT t) : onef L = (zeroF, 0, 4) := by
  unfold onef; rw [h]; rw [if_neg (by simp), if_pos]
  unfold goodT at hb
  simp only
  omega
theorem one_len {L : List Int} {t a s e : Int} {h : Nat} (h1 : rd 0 0 L = (t, (h : Int), 0)) (hg : goodT t) (h2 : rd 0 0 (L.drop h) = (a, s, e)) (he : e ≠ 0) : onef L = (zeroF, 0, e) := by
  unfold onef; rw [h1]; simp only [Int.toNat_natCast]; rw [h2]
  unfold goodT at hg
  rw [if_neg (by simp), if_neg (by omega), if_pos he]
theorem one_var {L : List Int} {t n : Int} {h k : Nat} (h1 : rd 0 0 L = (t, (h : Int), 0)) (hg : goodT t) (h2 : rd 0 0 (L.drop h) = (n, (k : Int), 0)) (h0 : t % 8 = 0) : onef L = (⟨t / 8, 0, n, []⟩, ((h + k : Nat) : Int), 0) := by
  unfold onef; rw [h1]; simp only [Int.toNat_natCast]; rw [h2]
  unfold goodT at hg
  rw [if_neg (by simp), if_neg (by omega), if_neg (by simp), if_pos h0]
  simp
theorem one_short {L : List Int} {t n : Int} {h k : Nat} (h1 : rd 0 0 L = (t, (h : Int), 0)) (hg : goodT t) (h2 : rd 0 0 (L.drop h) = (n, (k : Int), 0)) (h0 : t % 8 = 2) (hs : ((L.drop (h + k)).length : Int) < n) : onef L = (zeroF, 0, 5) := by
  unfold onef; rw [h1]; simp only [Int.toNat_natCast]; rw [h2]
  unfold goodT at hg
  rw [if_neg (by simp), if_neg (by omega), if_neg (by simp), if_neg (by omega), if_pos (by simpa using hs)]
theorem one_bytes {L : List Int} {t : Int} {n h k : Nat} (h1 : rd 0 0 L = (t, (h : Int), 0)) (hg : goodT t) (h2 : rd 0 0 (L.drop h) = ((n : Int), (k : Int), 0)) (h0 : t % 8 = 2) (hs : n ≤ (L.drop (h + k)).length) :
    onef L = (⟨t / 8, 2, 0, (L.drop (h + k)).take n⟩, ((h + k + n : Nat) : Int), 0) := by
  unfold onef; rw [h1]; simp only [Int.toNat_natCast]; rw [h2]
  unfold goodT at hg
  rw [if_neg (by simp), if_neg (by omega), if_neg (by simp), if_neg (by omega), if_neg (by simp only [Int.toNat_natCast]; omega)]
  simp

theorem drop_bytes {L : List Int} (hl : ∀ x, x ∈ L → 0 ≤ x ∧ x ≤ 255) (k : Nat) : ∀ x, x ∈ L.drop k → 0 ≤ x ∧ x ≤ 255 := fun x hx => hl x (List.mem_of_mem_drop hx)
theorem take_bytes {L : List Int} (hl : ∀ x, x ∈ L → 0 ≤ x ∧ x ≤ 255) (k : Nat) : ∀ x, x ∈ L.take k → 0 ≤ x ∧ x ≤ 255 := fun x hx => hl x (List.mem_of_mem_take hx)

theorem trip {r : Int × Int × Int} (h1 : r.1 = 0) (h2 : r.2.1 = 0) : r = (0, 0, r.2.2) := by
  obtain ⟨a, b, c⟩ := r
  simp only at h1 h2
  rw [h1, h2]

/-- The ways of reading one field. -/
theorem one_cases (L : List Int) (hl : ∀ x, x ∈ L → 0 ≤ x ∧ x ≤ 255) :
    (∃ e, rd 0 0 L = (0, 0, e) ∧ e ≠ 0) ∨
    ∃ (t : Int) (h : Nat), 0 ≤ t ∧ t ≤ 18446744073709551615 ∧ rd 0 0 L = (t, (h : Int), 0) ∧ 0 < h ∧ h ≤ 10 ∧ h ≤ L.length ∧ Enc t = L.take h ∧ (Enc t).length = h ∧
      (¬ goodT t ∨ (goodT t ∧
        ((∃ e, rd 0 0 (L.drop h) = (0, 0, e) ∧ e ≠ 0) ∨
         ∃ (n k : Nat), (n : Int) ≤ 18446744073709551615 ∧ rd 0 0 (L.drop h) = ((n : Int), (k : Int), 0) ∧ 0 < k ∧ k ≤ 10 ∧ h + k ≤ L.length ∧ Enc n = (L.drop h).take k ∧ (Enc (n : Int)).length = k))) := by
  rcases rd_Inv L hl with ⟨h1, h2, h3⟩ | ⟨t, ht0, ht1, hr, hle, htk⟩
  · refine .inl ⟨(rd 0 0 L).2.2, ?_, h3⟩
    exact trip h1 h2
  · refine .inr ⟨t, (Enc t).length, ht0, ht1, hr, (Enc_len t).1, (Enc_len t).2, hle, htk, rfl, ?_⟩
    by_cases hg : goodT t
    · refine .inr ⟨hg, ?_⟩
      rcases rd_Inv (L.drop (Enc t).length) (drop_bytes hl _) with ⟨h1, h2, h3⟩ | ⟨n, hn0, hn1, hr2, hle2, htk2⟩
      · refine .inl ⟨(rd 0 0 (L.drop (Enc t).length)).2.2, ?_, h3⟩
        exact trip h1 h2
      · obtain ⟨N, rfl⟩ := Int.eq_ofNat_of_zero_le hn0
        rw [List.length_drop] at hle2
        exact .inr ⟨N, (Enc (N : Int)).length, hn1, hr2, (Enc_len _).1, (Enc_len _).2, by omega, htk2, rfl⟩
    · exact .inl hg

/-- One field: the field, or the error. -/
theorem one_inv (L : List Int) (hl : ∀ x, x ∈ L → 0 ≤ x ∧ x ≤ 255) (hL : L.length ≤ 1000000) :
    (∃ e, onef L = (zeroF, 0, e) ∧ e ≠ 0) ∨ ∃ f, Vf f ∧ onef L = (f, ((encF f).length : Int), 0) ∧ (encF f).length ≤ L.length ∧ L = encF f ++ L.drop (encF f).length := by
  rcases one_cases L hl with ⟨e, h, he⟩ | ⟨t, h, ht0, ht1, hr, h0, h10, hle, htk, hlen, hc⟩
  · exact .inl ⟨e, one_tag h he, he⟩
  rcases hc with hb | ⟨hg, hc⟩
  · exact .inl ⟨4, one_bad hr hb, by omega⟩
  rcases hc with ⟨e, h2, he⟩ | ⟨n, k, hn, h2, hk0, hk10, hle2, htk2, hlen2⟩
  · exact .inl ⟨e, one_len hr hg h2 he, he⟩
  have hL1 : L = Enc t ++ (Enc (n : Int) ++ L.drop (h + k)) := by
    rw [htk, htk2, ← List.drop_drop, List.take_append_drop, List.take_append_drop]
  have hg' := hg
  unfold goodT at hg'
  by_cases h8 : t % 8 = 0
  · have ht : 8 * (t / 8) + 0 = t := by omega
    have he : encF ⟨t / 8, 0, n, []⟩ = Enc t ++ Enc (n : Int) := by
      show Enc (8 * (t / 8) + 0) ++ (Enc (secI 0 n 0) ++ []) = _
      rw [ht, List.append_nil]; rfl
    have hl2 : (encF ⟨t / 8, 0, n, []⟩).length = h + k := by rw [he, List.length_append, hlen, hlen2]
    refine .inr ⟨⟨t / 8, 0, n, []⟩, ⟨⟨by simp only; omega, by simp only; omega, .inl ⟨rfl, rfl⟩⟩, ⟨by simp only; omega, hn⟩, by simp, by simp⟩, ?_, ?_, ?_⟩
    · rw [one_var hr hg h2 h8, hl2]
    · rw [hl2]; omega
    · rw [hl2, he, List.append_assoc]; exact hL1
  · have h82 : t % 8 = 2 := by omega
    by_cases hs : n ≤ (L.drop (h + k)).length
    · have hbl : ((L.drop (h + k)).take n).length = n := by rw [List.length_take]; omega
      have he : encF ⟨t / 8, 2, 0, (L.drop (h + k)).take n⟩ = Enc t ++ (Enc (n : Int) ++ (L.drop (h + k)).take n) := by
        show Enc (8 * (t / 8) + 2) ++ (Enc (secI 2 0 ((L.drop (h + k)).take n).length) ++ _) = _
        rw [hbl, show 8 * (t / 8) + 2 = t by omega]; rfl
      have hl2 : (encF ⟨t / 8, 2, 0, (L.drop (h + k)).take n⟩).length = h + k + n := by rw [he, List.length_append, List.length_append, hlen, hlen2, hbl, Nat.add_assoc]
      refine .inr ⟨⟨t / 8, 2, 0, (L.drop (h + k)).take n⟩, ⟨⟨by simp only; omega, by simp only; omega, .inr ⟨rfl, rfl⟩⟩, ⟨by simp only; omega, by simp only; omega⟩, take_bytes (drop_bytes hl _) _, ?_⟩, ?_, ?_, ?_⟩
      · simp only [hbl]; rw [List.length_drop] at hs; omega
      · rw [one_bytes hr hg h2 h82 hs, hl2]
      · rw [hl2]; rw [List.length_drop] at hs; omega
      · have hd : L.drop (h + k + n) = (L.drop (h + k)).drop n := by rw [List.drop_drop]
        rw [hl2, he, hd, List.append_assoc, List.append_assoc, List.take_append_drop]; exact hL1
    · exact .inl ⟨5, one_short hr hg h2 h82 (by omega), by omega⟩

theorem tag_bounds {f : Fld} (h : Vf f) : 0 ≤ 8 * f.num + f.kind ∧ 8 * f.num + f.kind ≤ 18446744073709551615 := by
  obtain ⟨⟨h1, h2, h3⟩, _⟩ := h
  omega
theorem sec_bounds {f : Fld} (h : Vf f) : 0 ≤ secI f.kind f.val f.bytes.length ∧ secI f.kind f.val f.bytes.length ≤ 18446744073709551615 := by
  obtain ⟨_, h1, _, h3⟩ := h
  unfold secI
  split <;> omega
/-- The encoding of a field is read, whatever follows. -/
theorem one_enc (f : Fld) (h : Vf f) (T : List Int) : onef (encF f ++ T) = (f, ((encF f).length : Int), 0) := by
  have tb := tag_bounds h
  have sb := sec_bounds h
  obtain ⟨⟨v1, v2, v3⟩, w1, w2, w3⟩ := h
  have e0 : encF f ++ T = Enc (8 * f.num + f.kind) ++ (Enc (secI f.kind f.val f.bytes.length) ++ (f.bytes ++ T)) := by simp [encF, encI]
  have r1 := rd_Enc _ tb.1 tb.2 (Enc (secI f.kind f.val f.bytes.length) ++ (f.bytes ++ T))
  have r2 := rd_Enc _ sb.1 sb.2 (f.bytes ++ T)
  rw [← e0] at r1
  have d1 : (encF f ++ T).drop (Enc (8 * f.num + f.kind)).length = Enc (secI f.kind f.val f.bytes.length) ++ (f.bytes ++ T) := by rw [e0, List.drop_left]
  rw [← d1] at r2
  have d2 : (encF f ++ T).drop ((Enc (8 * f.num + f.kind)).length + (Enc (secI f.kind f.val f.bytes.length)).length) = f.bytes ++ T := by rw [← List.drop_drop, d1, List.drop_left]
  have hg : goodT (8 * f.num + f.kind) := by unfold goodT; omega
  have hlen : (encF f).length = (Enc (8 * f.num + f.kind)).length + (Enc (secI f.kind f.val f.bytes.length)).length + f.bytes.length := by
    simp only [encF, encI, List.length_append]; omega
  rw [hlen]
  obtain ⟨num, kind, val, B⟩ := f
  simp only at *
  rcases v3 with ⟨rfl, v4⟩ | ⟨rfl, v4⟩
  · obtain rfl : B = [] := List.eq_nil_of_length_eq_zero v4
    rw [one_var r1 hg r2 (by omega), show (8 * num + 0) / 8 = num by omega]
    rfl
  · subst v4
    have hs : secI 2 0 B.length = (B.length : Int) := rfl
    rw [hs] at r2 d2 ⊢
    rw [one_bytes r1 hg r2 (by omega) (by rw [d2, List.length_append]; omega), d2, List.take_left, show (8 * num + 2) / 8 = num by omega]

/-- What is read as a message: the fields, the offset, the error. -/
def fldsG : Nat → List Fld → Nat → List Int → List Fld × Int × Int
  | 0, acc, _, _ => (acc, 0, 0)
  | f + 1, acc, i, L =>
    if L.length = 0 then (acc, 0, 0) else if 1024 ≤ acc.length then ([], (i : Int), 3) else
    if (onef L).2.2 ≠ 0 then ([], (i : Int), (onef L).2.2) else fldsG f (acc ++ [(onef L).1]) (i + (onef L).2.1.toNat) (L.drop (onef L).2.1.toNat)
def flds (L : List Int) : List Fld × Int × Int := fldsG (L.length + 1) [] 0 L

theorem flds_end {f : Nat} {acc : List Fld} {i : Nat} {L : List Int} (h : L.length = 0) : fldsG (f + 1) acc i L = (acc, 0, 0) := by rw [fldsG, if_pos h]
theorem flds_limit {f : Nat} {acc : List Fld} {i : Nat} {L : List Int} (h : ¬ L.length = 0) (h1 : 1024 ≤ acc.length) : fldsG (f + 1) acc i L = ([], (i : Int), 3) := by rw [fldsG, if_neg h, if_pos h1]
theorem flds_err {f : Nat} {acc : List Fld} {i : Nat} {L : List Int} {x : Fld} {s e : Int} (h : ¬ L.length = 0) (h1 : acc.length < 1024) (h2 : onef L = (x, s, e)) (he : e ≠ 0) : fldsG (f + 1) acc i L = ([], (i : Int), e) := by
  rw [fldsG, if_neg h, if_neg (by omega), h2, if_pos he]
theorem flds_next {f : Nat} {acc : List Fld} {i : Nat} {L : List Int} {x : Fld} {s : Nat} (h : ¬ L.length = 0) (h1 : acc.length < 1024) (h2 : onef L = (x, (s : Int), 0)) : fldsG (f + 1) acc i L = fldsG f (acc ++ [x]) (i + s) (L.drop s) := by
  rw [fldsG, if_neg h, if_neg (by omega), h2, if_neg (by simp)]
  simp

theorem encF_pos (f : Fld) : 2 ≤ (encF f).length := by
  have h1 := (Enc_len (8 * f.num + f.kind)).1
  have h2 := (Enc_len (secI f.kind f.val f.bytes.length)).1
  simp only [encF, encI, List.length_append]
  omega
theorem encF_le (f : Fld) : (encF f).length ≤ 20 + f.bytes.length := by
  have h1 := (Enc_len (8 * f.num + f.kind)).2
  have h2 := (Enc_len (secI f.kind f.val f.bytes.length)).2
  simp only [encF, encI, List.length_append]
  omega
theorem encF_bytes (f : Fld) (h : Vf f) : ∀ x, x ∈ encF f → 0 ≤ x ∧ x ≤ 255 := by
  intro x hx
  have tb := tag_bounds h
  have sb := sec_bounds h
  simp only [encF, encI, List.mem_append] at hx
  rcases hx with hx | hx | hx
  · exact Enc_bytes _ tb.1 tb.2 x hx
  · exact Enc_bytes _ sb.1 sb.2 x hx
  · exact h.2.2.1 x hx

/-- Fields that were written are read. -/
theorem flds_enc (F : List Fld) : ∀ (f : Nat) (acc : List Fld) (i : Nat), (∀ x, x ∈ F → Vf x) → acc.length + F.length ≤ 1024 → (F.flatMap encF).length < f → fldsG f acc i (F.flatMap encF) = (acc ++ F, 0, 0) := by
  induction F with
  | nil =>
    intro f acc i _ _ hf
    obtain ⟨g, rfl⟩ : ∃ g, f = g + 1 := ⟨f - 1, by omega⟩
    rw [flds_end (by simp)]
    simp
  | cons x F ih =>
    intro f acc i hv hn hf
    obtain ⟨g, rfl⟩ : ∃ g, f = g + 1 := ⟨f - 1, by omega⟩
    have hp := encF_pos x
    rw [List.flatMap_cons, List.length_append] at hf
    simp only [List.length_cons] at hn
    rw [List.flatMap_cons, flds_next (by rw [List.length_append]; omega) (by omega) (one_enc x (hv x (by simp)) _), List.drop_left, ih g _ _ (fun y hy => hv y (by simp [hy])) (by simp; omega) (by omega)]
    simp
/-- Too many fields. -/
theorem flds_many (F : List Fld) : ∀ (f : Nat) (acc : List Fld) (i : Nat), (∀ x, x ∈ F → Vf x) → acc.length ≤ 1024 → 1024 < acc.length + F.length → (F.flatMap encF).length < f →
    fldsG f acc i (F.flatMap encF) = ([], ((i + ((F.take (1024 - acc.length)).flatMap encF).length : Nat) : Int), 3) := by
  induction F with
  | nil => intro f acc i _ h1 h2; simp at h2; omega
  | cons x F ih =>
    intro f acc i hv h1 hn hf
    obtain ⟨g, rfl⟩ : ∃ g, f = g + 1 := ⟨f - 1, by omega⟩
    have hp := encF_pos x
    rw [List.flatMap_cons, List.length_append] at hf
    simp only [List.length_cons] at hn
    rw [List.flatMap_cons]
    by_cases h : acc.length = 1024
    · rw [flds_limit (by rw [List.length_append]; omega) (by omega), h]
      simp
    · obtain ⟨d, hd⟩ : ∃ d, 1024 - acc.length = d + 1 := ⟨1023 - acc.length, by omega⟩
      rw [flds_next (by rw [List.length_append]; omega) (by omega) (one_enc x (hv x (by simp)) _), List.drop_left, ih g _ _ (fun y hy => hv y (by simp [hy])) (by simp; omega) (by simp; omega) (by omega), hd, List.take_succ_cons,
        List.flatMap_cons, List.length_append, show 1024 - (acc.length + [x].length) = d by simp; omega]
      simp
      omega
/-- What is read as a message is written again as it is; an error has an offset within the bytes. -/
theorem flds_inv (f : Nat) : ∀ (acc : List Fld) (i : Nat) (L : List Int), (∀ x, x ∈ L → 0 ≤ x ∧ x ≤ 255) → L.length ≤ 1000000 → L.length < f →
    (∃ e j, fldsG f acc i L = ([], ((j : Nat) : Int), e) ∧ e ≠ 0 ∧ i ≤ j ∧ j < i + L.length) ∨ ∃ G, fldsG f acc i L = (acc ++ G, 0, 0) ∧ G.flatMap encF = L ∧ (∀ x, x ∈ G → Vf x) := by
  induction f with
  | zero => intro acc i L _ _ h; omega
  | succ f ih =>
    intro acc i L hl hL hf
    by_cases h0 : L.length = 0
    · exact .inr ⟨[], by rw [flds_end h0, List.append_nil], (List.eq_nil_of_length_eq_zero h0).symm, by simp⟩
    by_cases h1 : 1024 ≤ acc.length
    · exact .inl ⟨3, i, flds_limit h0 h1, by omega, by omega, by omega⟩
    rcases one_inv L hl hL with ⟨e, ho, he⟩ | ⟨x, hx, ho, hle, hL2⟩
    · exact .inl ⟨e, i, flds_err h0 (by omega) ho he, he, by omega, by omega⟩
    · have hp := encF_pos x
      rw [flds_next h0 (by omega) ho]
      have hd : (L.drop (encF x).length).length = L.length - (encF x).length := List.length_drop
      rcases ih (acc ++ [x]) (i + (encF x).length) (L.drop (encF x).length) (drop_bytes hl _) (by omega) (by omega) with ⟨e, j, h2, h3, h4, h5⟩ | ⟨G, h2, h3, h4⟩
      · exact .inl ⟨e, j, h2, h3, by omega, by omega⟩
      · refine .inr ⟨x :: G, by rw [h2]; simp, by rw [List.flatMap_cons, h3]; exact hL2.symm, ?_⟩
        intro y hy
        rcases List.mem_cons.1 hy with rfl | hy
        · exact hx
        · exact h4 y hy
end Go.Proofs.Ytaaeepanelmgnaa
