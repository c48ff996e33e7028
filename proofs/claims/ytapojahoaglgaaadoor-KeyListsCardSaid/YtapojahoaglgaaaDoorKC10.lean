/-
  Rows of keys that a call makes; the contract of the statement's own keys.
-/
import Derived.Test.YtapojahoaglgaaaDoorKB1
namespace Go.Proofs.YtapojahoaglgaaaDoor
open Go.RowKit

/-- The cells of keys in a row. -/
def kcells (Ks : List (List Int)) : List Value := Ks.flatMap fun k => k.map (Value.int .u8)
theorem kcells_snoc (Ks : List (List Int)) (k : List Int) : kcells (Ks ++ [k]) = kcells Ks ++ k.map (Value.int .u8) := by simp [kcells]
theorem kcells_len (Ks : List (List Int)) (h : ∀ k ∈ Ks, k.length = 32) : (kcells Ks).length = Ks.length * 32 := by
  induction Ks with
  | nil => rfl
  | cons k Ks ih =>
    have : kcells (k :: Ks) = k.map (Value.int .u8) ++ kcells Ks := rfl
    rw [this, List.length_append, ih (fun k hk => h k (by simp [hk])), List.length_map, h k (by simp), List.length_cons]
    omega
theorem kcells_at (Ks : List (List Int)) (h : ∀ k ∈ Ks, k.length = 32) : ∀ i j, i < Ks.length → j < 32 → (kcells Ks)[i * 32 + j]? = ((Ks.getD i []).map (Value.int .u8))[j]? := by
  induction Ks with
  | nil => intro i j hi; simp at hi
  | cons k Ks ih =>
    intro i j hi hj
    have e : kcells (k :: Ks) = k.map (Value.int .u8) ++ kcells Ks := rfl
    have hk : (k.map (Value.int .u8)).length = 32 := by rw [List.length_map]; exact h k (by simp)
    rw [e]
    cases i with
    | zero => rw [List.getElem?_append_left (by omega)]; simp
    | succ i =>
      rw [List.getElem?_append_right (by omega), hk, show (i + 1) * 32 + j - 32 = i * 32 + j by omega, ih (fun k hk => h k (by simp [hk])) i j (by simpa using hi) hj]
      simp
/-- A row of keys that the call made. -/
def OwnK (w : World) (B : Nat) (v : Value) (Ks : List (List Int)) : Prop := w.ownsRow B 25 32 v Ks.length (kcells Ks) ∧ ∀ k ∈ Ks, k.length = 32
theorem OwnK.rk {w : World} {B : Nat} {v : Value} {Ks : List (List Int)} (h : OwnK w B v Ks) : ∃ a c, v = .slice a Ks.length c ∧ Rk w a Ks ∧ Ks.length ≤ c := by
  obtain ⟨h, hk⟩ := h
  rcases h.2 with ⟨rfl, h0⟩ | ⟨g, cap, cur, rfl, hb, hg, hcap, hm, hcs, htk⟩
  · exact ⟨none, 0, by rw [h0], fun i hi => by omega, by omega⟩
  · refine ⟨some ⟨g, 0, none⟩, cap, rfl, fun i hi => ⟨g, 0, rfl, (Array.getElem?_eq_some_iff.1 hg).1, fun j v hv => ?_, ?_⟩, hcap⟩
    · have hkl : (Ks.getD i []).length = 32 := by
        have : Ks.getD i [] = Ks[i] := by simp [List.getD, List.getElem?_eq_getElem hi]
        rw [this]
        exact hk _ (List.getElem_mem hi)
      have hj : j < 32 := by
        rcases Nat.lt_or_ge j 32 with h | h
        · exact h
        · rw [List.getElem?_eq_none (by rw [List.length_map, hkl]; exact h)] at hv; cases hv
      have hk' := h.cells (g := g) rfl (i * 32 + j) v (by rw [kcells_at Ks hk i j hi hj]; exact hv)
      rw [← hk', Nat.zero_add]
      rw [Go.WideShapes.add_plain, Nat.zero_add]
    · have : Ks.getD i [] = Ks[i] := by simp [List.getD, List.getElem?_eq_getElem hi]
      rw [this]
      exact hk _ (List.getElem_mem hi)
theorem OwnK.nil (w : World) (B : Nat) : OwnK w B (.slice none 0 0) [] := ⟨World.ownsRow_nil _ _ _ _, fun _ h => by cases h⟩
theorem OwnK.below {w w' : World} {B : Nat} {v : Value} {Ks : List (List Int)} (h : OwnK w B v Ks) (hb : Below w.heap.size w w') : OwnK w' B v Ks := ⟨own_below h.1 hb, h.2⟩
theorem OwnK.base {w : World} {B B' : Nat} {v : Value} {Ks : List (List Int)} (h : OwnK w B' v Ks) (hB : B ≤ B') : OwnK w B v Ks := ⟨World.ownsRow.mono h.1 hB, h.2⟩
/-- The key that the statement makes of a byte. -/
def keyL (x : Int) : List Int := (List.replicate 32 0).set (x % 3 * 15).toNat (x % 5)
def keysL (L : List Int) : List (List Int) := L.map keyL
theorem keyL_len (x : Int) : (keyL x).length = 32 := by simp [keyL]
theorem keysL_next (L : List Int) (i : Nat) (h : i < L.length) : keysL (L.take (i + 1)) = keysL (L.take i) ++ [keyL (L.getD i 0)] := by
  rw [List.take_succ_eq_append_getElem h, getD_lt L i 0 h]
  unfold keysL
  rw [List.map_append]
  rfl

set_option maxRecDepth 100000 in
set_option maxHeartbeats 4000000 in
theorem keys_any (a : Option Addr) (c : Nat) (L : List Int) (w : World) (hS : Sl w a c L) (h8 : ∀ x, x ∈ L → W8 x) (hl : L.length ≤ 1000) :
    Calls Tryd.prog 16 #[.slice a L.length c] w fun e w' => ∃ v, e = .returned v ∧ OwnK w' w.heap.size v (keysL L) ∧ Below w.heap.size w w' := by
  obtain ⟨i0, hi, hz0, hz1, hz2⟩ := info_parts info25
  have HI := Lib.hid hi
  have HZ0 := Lib.hid hz0
  have HZ1 := Lib.hid hz1
  have HZ2 := Lib.hid hz2
  clear hi hz0 hz1 hz2
  have HS := Lib.hid hS
  have H8 := Lib.hid h8
  clear hS h8
  generalize hn : L.length = n at *
  have HN := Lib.hid hn
  clear hn
  go_enter Tryd.func16, Tryd.ntmps16
  go_wp2_with fail
  go_loopg [3, 9] n (fun g s3 s9 wx => ∃ i : Nat, i ≤ n ∧ s9 = .int .i64 i ∧ OwnK wx w.heap.size s3 (keysL (L.take i)) ∧ Below w.heap.size w wx ∧ n - i = g)
  case atStart => exact ⟨0, by omega, by go_num, OwnK.nil _ _, Below.refl _ _, rfl⟩
  case round =>
    obtain ⟨i, hi, rfl, hO, hW, hgk⟩ := hrel
    obtain ⟨a3, c3, rfl, -, -⟩ := hO.rk
    by_cases hlt : i < n
    · have hSr := sl_below HS.out (hW.mono (Nat.le_refl _))
      obtain ⟨b, off, rfl, hb, xc⟩ := sl_at hSr (k := i) (by rw [HN.out]; exact hlt)
      have x8 := W8.getD H8.out i (by rw [HN.out]; exact hlt)
      have hkn := keysL_next L i (by rw [HN.out]; exact hlt)
      have hkl : (keysL (L.take i)).length = i := by simp [keysL, List.length_take, HN.out]; omega
      have hO' : wr.ownsRow w.heap.size 25 32 (.slice a3 i c3) i (kcells (keysL (L.take i))) := by
        have := hO.1
        rwa [hkl] at this
      have HO := Lib.hid hO'
      have HA := Lib.hid hO.2
      have HKN := Lib.hid hkn
      have HKL := Lib.hid hkl
      have HW := Lib.hid hW
      rw [hkl]
      clear hO hO' hkn hkl hSr hW
      obtain ⟨x0, x1⟩ := x8
      generalize L.getD i 0 = x at *
      obtain ⟨q, hq⟩ := Int.eq_ofNat_of_zero_le (show 0 ≤ x % 3 * 15 by omega)
      have hq32 : q < 32 := by omega
      have HKX : Hid (keyL x = (List.replicate 32 0).set q (x % 5)) := Lib.hid (by unfold keyL; rw [hq]; rfl)
      go_upto_region 5 with fail
      apply wp_region_lit
      refine run_to rfl (some 6) rfl (.pointer (some ⟨wr.heap.size, 0, none⟩)) (wr.alloc (.cells (w8s (List.replicate 32 0)) 25)) (by kernel_rfl) ?_
      apply wpList_nil
      simp only [Act.put, List.setIfInBounds_toArray, List.set_cons_succ, List.set_cons_zero]
      have hN : Ab (wr.alloc (.cells (w8s (List.replicate 32 0)) 25)) wr.heap.size 25 (List.replicate 32 0) := heap_alloc_last _ _
      have hO2 := HO.out.alloc (.cells (w8s (List.replicate 32 0)) 25)
      have hW2 := HW.out.alloc HW.out.size (.cells (w8s (List.replicate 32 0)) 25)
      have hgx := HW.out.size
      have hown := HO.out
      have hne : ∀ k, (Value.slice a3 i c3).ownBlock = some k → k ≠ wr.heap.size := fun k hk => by
        have := (hown.lt k hk).2
        omega
      generalize wr.alloc (.cells (w8s (List.replicate 32 0)) 25) = V at *
      generalize wr.heap.size = gx at *
      have xk := hN.cell q (by simp; omega)
      have xf := hN.frozen q
      have hN2 := hN.set q (x % 5)
      rw [← HKX.out] at hN2
      have hO3 : (V.setCell ⟨gx, q, none⟩ (.int .u8 (x % 5))).ownsRow w.heap.size 25 32 (.slice a3 i c3) i (kcells (keysL (L.take i))) := ownsRow_setCell_other hO2 (fun h => hne _ h rfl) _
      have hW3 : Below w.heap.size w (V.setCell ⟨gx, q, none⟩ (.int .u8 (x % 5))) := hW2.setCell hgx _
      have hsk : (w8s (keyL x)).size = 32 := by simp [keyL_len]
      have HN2 := Lib.hid hN2
      have HO3 := Lib.hid hO3
      have HW3 := Lib.hid hW3
      clear hN hO2 hW2 hown hne hN2 hO3 hW3 HO HW
      generalize (List.replicate 32 (0 : Int)).getD q 0 = z0 at *
      go_upto_region 7 with fail
      generalize V.setCell ⟨gx, q, none⟩ (.int .u8 (x % 5)) = V2 at *
      apply wp_region_lit
      refine wpList_plain rfl (fun K hK => ?_)
      go_simp
      apply hK
      clear hK K
      apply wpList_load_row (ty := 25) (x := .tmp 6) (g := gx) (t := 25) (cs := w8s (keyL x)) (fr := (0, 0)) (d := .array 32 5)
      case hgd => rfl
      case ho => rfl
      case hx => kernel_rfl
      case hg => exact HN2.out
      case hu => kernel_rfl
      case hd => rfl
      case hi => rw [hsk]; kernel_rfl
      have hbs := build_one (keyL x) (keyL_len x) V2
      refine build_to rfl (some 21) rfl 36 1 #[(0, .tmp 20)] rfl #[(0, .agg (w8s (keyL x)))] (by kernel_rfl) (.slice (some ⟨V2.heap.size, 0, none⟩) 1 1) (V2.alloc (.cells (w8s (keyL x)) 25)) hbs ?_
      have hbb := HW3.out.alloc HW3.out.size (.cells (w8s (keyL x)) 25)
      refine wpList_append_own _ rfl (.tmp 19) (.tmp 21) 36 rfl w.heap.size 25 i0 (.agg (w8s (List.replicate 32 0))) 32 32 (by kernel_rfl) HI.out HZ0.out HZ1.out HZ2.out rfl (by decide) (.slice a3 i c3) i (kcells (keysL (L.take i))) (by kernel_rfl) (HO3.out.alloc _)
        ⟨V2.heap.size, 0, none⟩ 1 1 ((keyL x).map (Value.int .u8)) (by kernel_rfl) (by rw [List.length_map, keyL_len]) (fun j u hj => ?_) (ints_oneCell _ _) (by unfold maxLen; omega) (by omega) hbb.size ?_
      · have e : (⟨V2.heap.size, 0, none⟩ : Addr).add j = ⟨V2.heap.size, j, none⟩ := by unfold Addr.add; split <;> simp_all
        rw [e, cell_of_row _ V2.heap.size j _ 25 (0, 0) (heap_alloc_last V2 _)]
        simpa using hj
      intro v3 w3 ho3 hg3 _
      have hb3 := hbb.grown hg3 hbb.size (fun k hk => ((HO3.out.lt k hk).1))
      have hOK : OwnK w3 w.heap.size v3 (keysL (L.take (i + 1))) := by
        refine ⟨?_, fun k hk => ?_⟩
        · rw [HKN.out, kcells_snoc, List.length_append, HKL.out]
          exact ho3
        · rw [HKN.out] at hk
          rcases List.mem_append.1 hk with h | h
          · exact HA.out k h
          · rw [List.mem_singleton.1 h]
            exact keyL_len x
      have HOK := Lib.hid hOK
      have HB3 := Lib.hid hb3
      clear ho3 hg3 hb3 hOK hbb hbs HO3 HW3 HN2
      go_wp2_with fail
      go_roundg (n - (i + 1))
      case measure => omega
      case rel => exact ⟨i + 1, by omega, by go_num, HOK.out, HB3.out, rfl⟩
    · have e : L.take i = L := List.take_of_length_le (by rw [HN.out]; omega)
      have hkl : (keysL L).length = n := by simp [keysL, HN.out]
      rw [e] at hO
      rw [e, hkl]
      rw [hkl] at hO
      have HOK := Lib.hid hO
      have HB3 := Lib.hid hW
      clear hO hW e
      go_wp2_with fail
      go_ret
      exact ⟨_, rfl, HOK.out, HB3.out⟩
end Go.Proofs.YtapojahoaglgaaaDoor
