/-
 The program's Names: contract.
-/
import Derived.Test.YtjononjpoeobcaaPE
import Derived.Test.YtjononjpoeobcaaIT
import Derived.StringKeys
namespace Go.Proofs.Ytjononjpoeobcaa
attribute [local irreducible] wpList wpQuiet
open Go.RowKit Go.Maps Go.Sort Go.Shelf Go.WideMaps Go.WideShapes
set_option maxRecDepth 100000
set_option linter.unusedSimpArgs false
set_option linter.unusedVariables false

def RU : Value → Option (DataW Unit × List MemPlace) := fun _ => some (.nil, [])
theorem lk_none {L : List (ByteArray × Value)} {x : ByteArray} : lkI L x = none ↔ ∀ p ∈ L, p.1 ≠ x := by
 constructor
 ·intro h
  unfold lkI at h
  exact fndI_none.1 (by simpa using h)
 ·exact lkI_none
theorem Ri.mem {w : World} {g B : Nat} {f : ByteArray → Option Value} {m : List Rw} (h : Ri w g B f m) {n : ByteArray} : f n ≠ none ↔ n ∈ nmsA none m := by
 constructor
 ·intro h1
  have h2 : lstE m n ≠ [] := fun e => h1 (h.no n e)
  obtain ⟨e, he⟩ := List.exists_mem_of_ne_nil _ h2
  have h3 := nms_all (p := none) (lst_mem.1 he)
  exact h3.elim (fun h => by cases h) fun h => h
 ·intro h1 h2
  obtain ⟨x, hx, rfl⟩ := nms_mem h1
  have h3 : lstE m x.1 ≠ [] := List.ne_nil_of_mem (lst_mem.2 (show (x.1, x.2) ∈ m from hx))
  obtain ⟨v, hv, -⟩ := h.ye x.1 h3
  rw [h2] at hv
  cases hv
theorem nms_nodup {m : List Rw} (h : Srt m) : (nmsA none m).Nodup := (nms_srt h).imp fun h => ltS_ne h
def bts (n : ByteArray) : List UInt8 := n.data.toList
theorem enc_bts (n : ByteArray) : encStr (bts n) = .string n := rfl
structure NmO (w : World) (B nn : Nat) (D0 : DataW Unit) (N : List ByteArray) : Prop where
 own : w.ownsMap Try.prog 9 RU B nn D0
 siz : Maps.size D0 ≤ 1000
 prm : (strKeys D0).Perm (N.map bts)
theorem Ri.names {w : World} {g B : Nat} {f : ByteArray → Option Value} {m : List Rw} (h : Ri w g B f m) (hm : Srt m) (hl : m.length ≤ 1000) (hN : ∀ x ∈ m, x.1.size ≤ 1000000) : ∃ nn D0, NmO w B nn D0 (nmsA none m) := by
 have hmem := fun n => h.mem (n := n)
 obtain ⟨L, ⟨es, c, hb, he, hst⟩, hnd, hlk⟩ := h.mp
 have hk : ∀ n, n ∈ L.map (·.1) ↔ n ∈ nmsA none m := fun n => by
  rw [← hmem n, ← hlk n, Ne, lk_none]
  constructor
  ·intro h1 h2
   obtain ⟨p, hp, rfl⟩ := List.mem_map.1 h1
   exact h2 p hp rfl
  ·intro h1
   refine Classical.byContradiction fun h2 => h1 fun p hp e => h2 (List.mem_map.2 ⟨p, hp, e⟩)
 have hpm : (L.map (·.1)).Perm (nmsA none m) := (List.perm_ext_iff_of_nodup hnd (nms_nodup hm)).2 hk
 have hlen : es.size = L.length := by
  have := congrArg List.length he
  simpa using this
 have hLm : L.length ≤ 1000 := by
  have h1 := hpm.length_eq
  have h2 := nms_len none m
  rw [List.length_map] at h1
  omega
 have hkey : ∀ x ∈ es.toList, ∃ n, x.key = .string n ∧ n.size ≤ 1000000 := fun x hx => by
  have h1 : (x.key, x.val) ∈ L.map (fun x => (Value.string x.1, x.2)) := by rw [← he]; exact List.mem_map.2 ⟨x, hx, rfl⟩
  obtain ⟨p, hp, hp2⟩ := List.mem_map.1 h1
  obtain ⟨y, hy, hy2⟩ := nms_mem ((hk p.1).1 (List.mem_map.2 ⟨p, hp, rfl⟩))
  exact ⟨p.1, (congrArg Prod.fst hp2).symm, by rw [← hy2]; exact hN y hy⟩
 have hrd : ∀ x ∈ es.toList, ∀ n, x.key = .string n → n.size ≤ 1000000 → WideElems.rd Try.prog 9 RU x = some (.string (bts n), .nil) := fun x hx n hn hs => by
  unfold WideElems.rd
  rw [hn, keyOf_string_mk Try.underlying9 (by unfold maxLen; omega)]
  rfl
 refine ⟨es.size, _, ⟨⟨es, c, hb, ⟨by unfold maxLen; omega, hst, fun x hx => by
  obtain ⟨n, h1, h2⟩ := hkey x hx
  exact ⟨_, hrd x hx n h1 h2⟩⟩, Nat.le_refl _, rfl⟩, ?_, ?_⟩⟩
 ·rw [Maps.size_eq, (sorted_perm _).length_eq, List.length_map, Array.length_toList]
  omega
 ·refine (((sorted_perm _).map _).trans ?_).trans (hpm.map bts)
  rw [List.map_map, List.map_map]
  have h1 : es.toList.map ((fun p => strOf p.1) ∘ WideElems.rg Try.prog 9 RU) = (es.toList.map fun e => (e.key, e.val)).map fun q => match q.1 with | .string s => bts s | _ => [] := by
   rw [List.map_map]
   refine List.map_congr_left fun x hx => ?_
   obtain ⟨n, h2, h3⟩ := hkey x hx
   show strOf (WideElems.rg Try.prog 9 RU x).1 = _
   unfold WideElems.rg
   rw [hrd x hx n h2 h3]
   show bts n = match x.key with | .string s => bts s | _ => []
   rw [h2]
  rw [h1, he, List.map_map]
  exact List.Perm.refl _
theorem le_bts {a b : ByteArray} (h : ltS a b = true) : decide (bts a ≤ bts b) = true := decide_eq_true (List.le_of_lt (of_decide_eq_true h))
theorem sort_bts {ss : List (List UInt8)} {D0 : DataW Unit} {m : List Rw} (hm : Srt m) (h1 : ss.Perm (strKeys D0)) (h2 : (strKeys D0).Perm ((nmsA none m).map bts)) : ss.mergeSort (fun x y => decide (x ≤ y)) = (nmsA none m).map bts := by
 have h3 := mergeSort_of_perm (h1.trans h2)
 refine h3.trans (List.mergeSort_of_pairwise ?_)
 rw [List.pairwise_map]
 exact (nms_srt hm).imp fun h => le_bts h
set_option maxRecDepth 100000 in
set_option maxHeartbeats 8000000 in
theorem q_names {w : World} {g : Nat} {S : Nat → Prop} {m : List Rw} (h : RepI w g S m) (hm : Srt m) (hl : m.length ≤ 1000) (hN : ∀ x ∈ m, x.1.size ≤ 1000000) : Calls Try.prog 12 #[.pointer (some ⟨g, 0, none⟩)] w (NsO w (nmsA none m)) := by
 obtain ⟨B, f, h, -⟩ := h
 have hX := h.bx
 obtain ⟨nn, D0, hO⟩ := h.names hm hl hN
 have C1 := callsIn_wide.1 (maps_keys (some B) w)
 have C2 := callsIn_wide.1 (sorted_keys B nn D0 RU w hO.own (by have := hO.siz; unfold maxLen; omega) (by have := hO.siz; omega))
 have HEND : Hid (∀ (e : Ending) (w' : World), (∃ (v : Value) (ss : List (List UInt8)), e = .returned v ∧ ss.Perm (strKeys D0) ∧ w'.ownsRow (w.alloc (.cells #[.map (some B)] 60)).heap.size 9 1 v ss.length ((ss.mergeSort (fun x y => decide (x ≤ y))).map encStr) ∧ (v = .slice none 0 0 ↔ ss = []) ∧ Below (w.alloc (.cells #[.map (some B)] 60)).heap.size (w.alloc (.cells #[.map (some B)] 60)) w') → ∃ u, e = .returned u ∧ NsO w (nmsA none m) (.returned u) w') := Lib.hid fun e w' z => by
  obtain ⟨v, ss, rfl, z1, z2, -, z3⟩ := z
  refine ⟨v, rfl, v, rfl, ?_, ((Below.refl _ w).alloc (Nat.le_refl _) _).trans (z3.mono (by simp))⟩
  rw [sort_bts hm z1 hO.prm] at z2
  have hlen : ss.length = (nmsA none m).length := by have := (z1.trans hO.prm).length_eq; rwa [List.length_map] at this
  rw [hlen, List.map_map] at z2
  exact own_base z2 (by simp)
 obtain ⟨PO, hPO⟩ : ∃ PO, NsO w (nmsA none m) = PO := ⟨_, rfl⟩
 rw [hPO] at HEND ⊢
 clear hPO h hm hl hN
 go_enter Try.func12, Try.ntmps12
 go_upto_region 1 with fail
 refine wl <| gz2 (.pointer (some ⟨g, 0, none⟩)) (.bool false) <| wn ?_
 simp only [pu]
 go_upto_region 3 with fail
 refine wl <| gz3 (.pointer (some ⟨g, 0, none⟩)) (.pointer (some ⟨g, 0, none⟩)) (.pointer (some ⟨g, 0, none⟩)) <| gzl rfl ⟨g, 0, none⟩ (.map (some B)) (hX.load (i := 0) rfl (by kernel_rfl)) <|
  gzc (.func (.func 39) #[] #[.pointer (some ⟨w.heap.size, 0, none⟩)]) (fun w' => w' = w.alloc (.cells #[.map (some B)] 60)) (C1) (fun W1 hW1 => ?_)
 subst hW1
 simp only [pu]
 refine gze (fun u w' => PO (.returned u) w') (C2.mono fun e w' z => HEND.out e w' z) (fun v9 V9 h9 => ?_)
 have HE := Lib.hid h9
 simp only [pu]
 refine gz1 (v9) <| wn ?_
 simp only [pu]
 clear C1 C2 hX hO HEND h9
 go_wp2_with fail
 exact HE.out
set_option maxRecDepth 100000 in
set_option maxHeartbeats 8000000 in
theorem q_names0 (w : World) : Calls Try.prog 12 #[.pointer none] w fun e w' => e = .returned (.slice none 0 0) ∧ w = w' := by
 go_enter Try.func12, Try.ntmps12
 go_upto_region 1 with fail
 refine wl <| gz2 (.pointer none) (.bool true) <| wn ?_
 simp only [pu]
 go_upto_region 2 with fail
 refine wl <| gz1 (.slice none 0 0) <| wn ?_
 simp only [pu]
 go_wp2_with fail
 go_ret
 exact ⟨rfl, rfl⟩
end Go.Proofs.Ytjononjpoeobcaa
