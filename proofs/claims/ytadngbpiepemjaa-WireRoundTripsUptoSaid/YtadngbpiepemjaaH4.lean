/-
  The contracts of the functions on lists of fields: big, SameFields; and of near at 0.
  Conditions: as typed.
-/
import Derived.Test.YtadngbpiepemjaaH3
import Derived.Test.YtadngbpiepemjaaG8
import Derived.Deep.QuietTactic
import Derived.BigQuiet
namespace Go.Proofs.Ytadngbpiepemjaa
open Go.RowKit

/-- A slice of fields at a reads as the list ps: each field's cells, and its bytes. -/
def Fs (w : World) (a : Option Addr) (ps : List (Fld × Value)) : Prop :=
  ∀ i p, ps[i]? = some p → ∃ b off ba bc, a = some ⟨b, off, none⟩ ∧ p.2 = .slice ba p.1.bytes.length bc ∧ Sl w ba bc p.1.bytes ∧ Box w b (off + i * 4) p.1.num p.1.kind p.1.val ba p.1.bytes.length bc

/-- The number of fields and of their bytes. -/
def bulkF (ps : List (Fld × Value)) : Nat := ps.length + (ps.map fun p => p.1.bytes.length).sum

theorem sum_take (l : List Nat) (k : Nat) (h : k < l.length) : (l.take (k + 1)).sum = (l.take k).sum + l[k] := by
  rw [List.take_succ_eq_append_getElem h, List.sum_append]
  simp
theorem sum_take_le (l : List Nat) (k : Nat) : (l.take k).sum ≤ l.sum := by
  have h : l.sum = (l.take k).sum + (l.drop k).sum := by rw [← List.sum_append, List.take_append_drop]
  omega

set_option maxHeartbeats 1000000 in
theorem big_any (a : Option Addr) (c : Nat) (ps : List (Fld × Value)) (w : World) (hF : Fs w a ps) (hp : bulkF ps ≤ 100000000) :
    Calls Try.prog 15 #[.slice a ps.length c] w fun e w' => e = .returned (.bool (decide (400 < bulkF ps))) ∧ Below w.heap.size w w' := by
  have HF := Lib.hid hF
  have HS := Lib.hid (sum_take (ps.map fun p => p.1.bytes.length))
  have HL := Lib.hid (sum_take_le (ps.map fun p => p.1.bytes.length))
  have HB : Hid (bulkF ps = ps.length + (ps.map fun p => p.1.bytes.length).sum) := rfl
  have hlenM : (ps.map fun p => p.1.bytes.length).length = ps.length := List.length_map _
  have HM := Lib.hid hlenM
  have hle0 : ps.length ≤ 100000000 := by have := HB.out; omega
  have HT : Hid ((ps.map fun p => p.1.bytes.length).take ps.length = ps.map fun p => p.1.bytes.length) := Lib.hid (List.take_of_length_le (by omega))
  clear hF hlenM
  go_enter Try.func15, Try.ntmps15
  go_wp2_with fail
  go_loopg [3, 10] ps.length (fun g s3 s10 wx => ∃ k : Nat, k ≤ ps.length ∧ s10 = .int .i64 k ∧ s3 = .int .i64 ((ps.length + ((ps.map fun p => p.1.bytes.length).take k).sum : Nat) : Int) ∧ Below w.heap.size w wx ∧ ps.length - k = g)
  case atStart => exact ⟨0, by omega, rfl, by simp, Below.refl _ _, rfl⟩
  case round =>
    obtain ⟨k, hk, rfl, rfl, hb, rfl⟩ := hrel
    by_cases hlt : k < ps.length
    · obtain ⟨b, off, ba, bc, rfl, -, -, hx⟩ := HF.out k ps[k] (List.getElem?_eq_getElem hlt)
      obtain ⟨x0, x1, x2, x3⟩ := hx.below hb
      have h1 := HS.out k (by rw [HM.out]; exact hlt)
      have h2 := HL.out (k + 1)
      rw [h1] at h2
      have hg : (ps.map fun p => p.1.bytes.length)[k]'(by rw [HM.out]; exact hlt) = ps[k].1.bytes.length := List.getElem_map _
      rw [hg] at h1 h2
      have H1 := Lib.hid h1
      have hbb := HB.out
      generalize ((ps.map fun p => p.1.bytes.length).take k).sum = S at *
      generalize ps[k] = p at *
      have h3 : ps.length + S + p.1.bytes.length ≤ 100000000 := by omega
      have hsz := hb.size
      clear h1 h2 hg hbb hx
      go_wp2_with fail
      go_roundg (ps.length - (k + 1))
      case measure => omega
      case rel => exact ⟨k + 1, by omega, by go_num, by rw [H1.out]; go_num, hb.alloc hsz _, rfl⟩
    · obtain rfl : k = ps.length := by omega
      have h3 : ps.length + ((ps.map fun p => p.1.bytes.length).take ps.length).sum = bulkF ps := by rw [HT.out]; exact HB.out.symm
      rw [h3]
      clear h3
      have hd : decide ((400 : Int) < ((bulkF ps : Nat) : Int)) = decide (400 < bulkF ps) := by
        rw [decide_eq_decide]
        omega
      have HDD := Lib.hid hd
      clear hd
      go_wp2
      go_ret
      exact ⟨congrArg (fun b => Ending.returned (.bool b)) HDD.out, hb⟩

set_option maxHeartbeats 4000000 in
set_option maxRecDepth 100000 in
theorem sameFields_true (a1 : Option Addr) (c1 : Nat) (ps : List (Fld × Value)) (a2 : Option Addr) (c2 : Nat) (qs : List (Fld × Value)) (w : World) (h1 : Fs w a1 ps) (h2 : Fs w a2 qs) (he : ps.map Prod.fst = qs.map Prod.fst) (hp : ps.length ≤ 100000000) :
    Calls Try.prog 18 #[.slice a1 ps.length c1, .slice a2 qs.length c2] w fun e w' => e = .returned (.bool true) ∧ Below w.heap.size w w' := by
  have hl : qs.length = ps.length := by have := congrArg List.length he; simpa using this.symm
  have HQ : Hid (∀ k, (h : k < ps.length) → ∃ p q, ps[k]? = some p ∧ qs[k]? = some q ∧ p.1 = q.1) := by
    intro k hk
    have e := congrArg (·[k]?) he
    simp only [List.getElem?_map, List.getElem?_eq_getElem hk, List.getElem?_eq_getElem (show k < qs.length by omega), Option.map_some, Option.some.injEq] at e
    exact ⟨_, _, List.getElem?_eq_getElem hk, List.getElem?_eq_getElem (by omega), e⟩
  have H1 := Lib.hid h1
  have H2 := Lib.hid h2
  rw [hl]
  clear h1 h2 he hl
  go_enter Try.func18, Try.ntmps18
  go_wp2_with fail
  go_loopg [13] ps.length (fun g s13 wx => ∃ k : Nat, k ≤ ps.length ∧ s13 = .int .i64 k ∧ Below w.heap.size w wx ∧ ps.length - k = g)
  case atStart => exact ⟨0, by omega, rfl, Below.refl _ _, rfl⟩
  case round =>
    obtain ⟨k, hk, rfl, hb, rfl⟩ := hrel
    by_cases hlt : k < ps.length
    · obtain ⟨p, q, hpk, hqk, he⟩ := HQ.out k hlt
      obtain ⟨b, off, ba, bc, rfl, -, s1, hx⟩ := H1.out k p hpk
      obtain ⟨b', off', ba', bc', rfl, -, s2, hy⟩ := H2.out k q hqk
      rw [← he] at hy s2
      obtain ⟨x0, x1, x2, x3⟩ := hx.below hb
      obtain ⟨y0, y1, y2, y3⟩ := hy.below hb
      have t1 := sl_below s1 hb
      have t2 := sl_below s2 hb
      obtain ⟨⟨num, kind, val, B⟩, pv⟩ := p
      simp only at *
      have hk0 : (0 : Int) ≤ (k : Int) := by omega
      have hk1 : (k : Int) < (ps.length : Int) := by omega
      clear hx hy s1 s2 hpk hqk he
      go_wp2_with fail
      go_region_held3 (fun wx => wx.cell? ⟨b, off + k * 4, none⟩ = some (.int .i64 num) ∧ wx.cell? ⟨b, off + k * 4 + 1, none⟩ = some (.int .i64 kind) ∧ wx.cell? ⟨b, off + k * 4 + 2, none⟩ = some (.int .u64 val) ∧ wx.cell? ⟨b, off + k * 4 + 3, none⟩ = some (.slice ba B.length bc) ∧
        wx.cell? ⟨b', off' + k * 4, none⟩ = some (.int .i64 num) ∧ wx.cell? ⟨b', off' + k * 4 + 1, none⟩ = some (.int .i64 kind) ∧ wx.cell? ⟨b', off' + k * 4 + 2, none⟩ = some (.int .u64 val) ∧ wx.cell? ⟨b', off' + k * 4 + 3, none⟩ = some (.slice ba' B.length bc'))
        (exact ⟨x0, x1, x2, x3, y0, y1, y2, y3⟩) (first | (go_at_call 12; refine (same_true ba bc ba' bc' B wr.drew t1 t2).mono ?_; rintro e w3 ⟨rfl, rfl⟩))
      go_wp2_with fail
      go_roundg (ps.length - (k + 1))
      case measure => omega
      case rel => exact ⟨k + 1, by omega, by go_num, hb.drew, rfl⟩
    · go_wp2
      go_ret
      exact ⟨rfl, hb⟩
end Go.Proofs.Ytadngbpiepemjaa
