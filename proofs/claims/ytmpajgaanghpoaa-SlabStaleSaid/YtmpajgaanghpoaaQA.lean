/-
 The program's apart: contract.
-/
import Derived.Test.YtmpajgaanghpoaaEM
namespace Go.Proofs.Ytmpajgaanghpoaa
attribute [local irreducible] wpList wpQuiet
open Go.RowKit
set_option maxRecDepth 100000
set_option linter.unusedSimpArgs false
set_option linter.unusedVariables false

theorem st_fld {w : World} {g t i : Nat} {cs : Array Value} (cs' : Array Value) {v : Value} {ty : TypeId} (h : Bx w g cs t) (hi : i < cs.size) (hc : cs.setIfInBounds i v = cs') (h1 : v.oneCell' = true) (hs : (Try.prog.info? ty).map (·.size) = some 1) : ∃ V2, (Instr.storeAt ty (.pointer (some ⟨g, i, none⟩)) v).run Try.prog w = .ok () V2 ∧ Bx V2 g cs' t ∧ But g w V2 :=
 ⟨_, run_store_cell h hi h1 hs, by rw [← hc]; exact h.setC v, But.setCell w i v⟩
theorem st_all {w : World} {g t : Nat} {cs cs' : Array Value} {ty : TypeId} (h : Bx w g cs t) (hz : cs.size = cs'.size) (h1 : cs'.all (·.oneCell') = true) (hs : (Try.prog.info? ty).map (·.size) = some cs'.size) : ∃ V2, (Instr.storeAt ty (.pointer (some ⟨g, 0, none⟩)) (.agg cs')).run Try.prog w = .ok () V2 ∧ Bx V2 g cs' t ∧ But g w V2 :=
 ⟨_, run_store_all h hz h1 hs, h.set, But.setRow w cs'⟩
theorem enA_one (e : En) (d : Ad) : (enA e d).all (·.oneCell') = true := by kernel_rfl
/-- An entry whose slices are rows of the call's own. -/
structure EnW (w : World) (B : Nat) (e : En) (d : Ad) : Prop where
 r : w.ownsRow B 5 1 (.slice d.ra e.raw.length d.rc) e.raw.length (bcells e.raw)
 p : w.ownsRow B 3 1 (.slice d.pa e.prs.length d.pc) e.prs.length (icells e.prs)
theorem EnW.i {w : World} {B : Nat} {e : En} {d : Ad} (h : EnW w B e d) : EnI w e d := by
 obtain ⟨a, c, e1, h1, -, h2⟩ := sl_own (n := e.raw.length) h.r
 obtain ⟨a2, c2, e2, h3, h4⟩ := own_cs h.p
 simp only [Value.slice.injEq, true_and] at e1 e2
 obtain ⟨e1a, e1b⟩ := e1
 obtain ⟨e2a, e2b⟩ := e2
 refine ⟨?_, ?_, ?_, ?_⟩
 ·rw [e1a, e1b]; exact h1
 ·rw [e2a]; exact h3
 ·rw [e1b]; exact h2
 ·rw [e2b]; exact h4
theorem EnW.ge {w : World} {B : Nat} {e : En} {d : Ad} (h : EnW w B e d) : ∀ k, EB e d k → B ≤ k := fun k hk => by
 rcases hk with ⟨-, x, hx, rfl⟩ | ⟨-, x, hx, rfl⟩
 ·exact (h.r.lt x.block (by rw [hx]; rfl)).1
 ·exact (h.p.lt x.block (by rw [hx]; rfl)).1
theorem EnW.below {w w' : World} {B : Nat} {e : En} {d : Ad} (h : EnW w B e d) (hb : Below w.heap.size w w') : EnW w' B e d := ⟨own_below h.r hb, own_below h.p hb⟩
theorem own_butq {w w' : World} {g B e size n c : Nat} {a : Option Addr} {xs : List Value} (h : w.ownsRow B e size (.slice a n c) n xs) (hb : But g w w') (hn : ∀ x, a = some x → x.block ≠ g) : w'.ownsRow B e size (.slice a n c) n xs := own_same h fun x hx => hb.2 _ (h.lt x.block (by rw [hx]; rfl)).2 (hn x hx)
def ApO (w : World) (E : En) (e : Ending) (w' : World) : Prop := ∃ d', e = .returned (.agg (enA E d')) ∧ EnW w' w.heap.size E d' ∧ Below w.heap.size w w'
theorem app_by {w : World} {a : Option Addr} {c : Nat} {L : List Int} (h : Sl w a c L) (hl : L.length ≤ 100000) : ∃ a2 c2 V, (Builtin.append_ #[41, 41] 41 #[.slice none 0 0, .slice a L.length c]).run Try.prog w = .ok (.slice a2 L.length c2) V ∧ V.ownsRow w.heap.size 5 1 (.slice a2 L.length c2) L.length (bcells L) ∧ Below w.heap.size w V := by
 obtain ⟨v, V, h1, h2, h3, -⟩ := append_cs (P := Try.prog) (t := 41) (m := L.length) (B := w.heap.size) (by kernel_rfl) info5 (by kernel_rfl) (by omega) (by omega) (World.ownsRow_nil _ _ _ _) a c (bcells L) (sl_cs h) (by simp [bcells]) (fun u hu => by
  obtain ⟨x, -, rfl⟩ := List.mem_map.1 hu
  rfl) (Nat.le_refl _) (Nat.zero_le _) hl
 rw [Nat.zero_add, List.nil_append] at h2
 obtain ⟨a2, c2, rfl, -, -⟩ := own_cs h2
 exact ⟨a2, c2, V, h1, h2, h3⟩
theorem app_is {w : World} {a : Option Addr} {c : Nat} {L : List Int} (h : Cs w a (icells L)) (hl : L.length ≤ 100000) : ∃ a2 c2 V, (Builtin.append_ #[22, 22] 22 #[.slice none 0 0, .slice a L.length c]).run Try.prog w = .ok (.slice a2 L.length c2) V ∧ V.ownsRow w.heap.size 3 1 (.slice a2 L.length c2) L.length (icells L) ∧ Below w.heap.size w V := by
 obtain ⟨v, V, h1, h2, h3, -⟩ := append_cs (P := Try.prog) (t := 22) (m := L.length) (B := w.heap.size) (by kernel_rfl) infoI (by kernel_rfl) (by omega) (by omega) (World.ownsRow_nil _ _ _ _) a c (icells L) h (by simp [icells]) (icells_one L) (Nat.le_refl _) (Nat.zero_le _) hl
 rw [Nat.zero_add, List.nil_append] at h2
 obtain ⟨a2, c2, rfl, -, -⟩ := own_cs h2
 exact ⟨a2, c2, V, h1, h2, h3⟩
set_option maxRecDepth 100000 in
set_option maxHeartbeats 8000000 in
theorem q_apart (e : En) (d : Ad) (w : World) (hI : EnI w e d) (hB : EnB e) : Calls Try.prog 31 #[.agg (enA e d)] w (ApO w e) := by
 have hb1 : Below w.heap.size w (w.alloc (.cells (enA e d) 44)) := (Below.refl _ w).alloc (Nat.le_refl _) _
 have hX1 : Bx (w.alloc (.cells (enA e d) 44)) w.heap.size (enA e d) 44 := heap_alloc_last w _
 have hsz1 : (w.alloc (.cells (enA e d) 44)).heap.size = w.heap.size + 1 := by simp
 go_enter Try.func31, Try.ntmps31
 go_upto_region 1 with fail
 change Code.wp _ _ _ _ ((w.alloc (.cells (enA e d) 44)).alloc (.cells (enA zEn zAd) 44))
 generalize w.alloc (.cells (enA e d) 44) = W1 at *
 have hb0 : Below w.heap.size w (W1.alloc (.cells (enA zEn zAd) 44)) := hb1.alloc hb1.size _
 have hX0 : Bx (W1.alloc (.cells (enA zEn zAd) 44)) w.heap.size (enA e d) 44 := hX1.below hX1.lt ((Below.refl _ W1).alloc (Nat.le_refl _) _)
 have hY0 : Bx (W1.alloc (.cells (enA zEn zAd) 44)) W1.heap.size (enA zEn zAd) 44 := heap_alloc_last W1 _
 rw [hsz1] at hY0
 generalize W1.alloc (.cells (enA zEn zAd) 44) = W at *
 obtain ⟨g1, hg1⟩ : ∃ g, w.heap.size = g := ⟨_, rfl⟩
 obtain ⟨g2, hg2⟩ : ∃ g, w.heap.size + 1 = g := ⟨_, rfl⟩
 have HG : Hid (w.heap.size ≤ g1 ∧ w.heap.size ≤ g2 ∧ g1 ≠ g2 ∧ g1 < W.heap.size ∧ g2 < W.heap.size) := Lib.hid ⟨by omega, by omega, by omega, by rw [← hg1]; exact hX0.lt, by rw [← hg2]; exact hY0.lt⟩
 rw [hg2] at hY0
 rw [hg1] at hX0
 rw [hg2, hg1]
 have hIW := hI.below hb0
 have HB := Lib.hid hb0
 have HN := Lib.hid hB
 obtain ⟨a2, c2, V1, hap1, hr1, hb2⟩ := app_by hIW.r (by have := HN.out.1; omega)
 have hY1 := hY0.below hY0.lt hb2
 obtain ⟨V2, hst1, hX2, hbt1⟩ := st_fld (i := 32) (ty := 41) (v := .slice a2 e.raw.length c2) (enA e { d with ra := a2, rc := c2 }) (hX0.below hX0.lt hb2) (by show 32 < 41; decide) (by kernel_rfl) rfl (by kernel_rfl)
 have hY2 := hY1.but hbt1 HG.out.2.2.1.symm
 have hp2 := (hIW.below hb2).p
 have hp3 : Cs V2 d.pa (icells e.prs) := cs_same hp2 fun k hk => hbt1.2 k (cs_rlt hp2 k hk) fun e2 => by
  have h1 := cs_rlt hI.p k hk
  have h2 := HG.out.1
  omega
 obtain ⟨a3, c3, V3, hap2, hr2, hb3⟩ := app_is (c := d.pc) hp3 (by have := HN.out.2; omega)
 obtain ⟨V4, hst2, hX4, hbt2⟩ := st_fld (i := 40) (ty := 22) (v := .slice a3 e.prs.length c3) (enA e ⟨a2, c2, a3, c3⟩) (hX2.below hX2.lt hb3) (by show 40 < 41; decide) (by kernel_rfl) rfl (by kernel_rfl)
 have hY4 := (hY2.below hY2.lt hb3).but hbt2 HG.out.2.2.1.symm
 obtain ⟨V5, hst3, hY5, hbt3⟩ := st_all (cs' := enA e ⟨a2, c2, a3, c3⟩) (ty := 44) hY4 rfl (enA_one _ _) (by kernel_rfl)
 have hw1 : W.heap.size ≤ V1.heap.size := hb2.size
 have hw2 : V1.heap.size ≤ V2.heap.size := hbt1.1.size
 have hw3 : V2.heap.size ≤ V3.heap.size := hb3.size
 have hw4 : V3.heap.size ≤ V4.heap.size := hbt2.1.size
 have hR5 : V5.ownsRow w.heap.size 5 1 (.slice a2 e.raw.length c2) e.raw.length (bcells e.raw) := by
  have q1 := own_butq hr1 hbt1 fun x hx => by have := (hr1.lt x.block (by rw [hx]; rfl)).1; have := HG.out.2.2.2.1; omega
  have q2 := own_below q1 hb3
  have q3 := own_butq q2 hbt2 fun x hx => by have := (hr1.lt x.block (by rw [hx]; rfl)).1; have := HG.out.2.2.2.1; omega
  have q4 := own_butq q3 hbt3 fun x hx => by have := (hr1.lt x.block (by rw [hx]; rfl)).1; have := HG.out.2.2.2.2; omega
  exact own_base q4 (by have := HG.out; omega)
 have hP5 : V5.ownsRow w.heap.size 3 1 (.slice a3 e.prs.length c3) e.prs.length (icells e.prs) := by
  have q3 := own_butq hr2 hbt2 fun x hx => by have := (hr2.lt x.block (by rw [hx]; rfl)).1; have := HG.out.2.2.2.1; omega
  have q4 := own_butq q3 hbt3 fun x hx => by have := (hr2.lt x.block (by rw [hx]; rfl)).1; have := HG.out.2.2.2.2; omega
  exact own_base q4 (by have := HG.out; omega)
 have hbz : Below w.heap.size w V5 := ((((HB.out.trans (hb2.mono HB.out.size)).trans (hbt1.1.mono HG.out.1)).trans (hb3.mono (by have := HB.out.size; omega))).trans (hbt2.1.mono HG.out.1)).trans (hbt3.1.mono HG.out.2.1)
 have HE : Hid (ApO w e (.returned (.agg (enA e ⟨a2, c2, a3, c3⟩))) V5) := Lib.hid ⟨_, rfl, ⟨hR5, hP5⟩, hbz⟩
 clear hb0 hb1 hX1 hsz1 hg1 hg2 hIW hI hb2 hY1 hY0 hbt1 hY2 hp2 hp3 hb3 hbt2 hY4 hbt3 hR5 hP5 hbz hr1 hr2 hw1 hw2 hw3 hw4 hB
 refine wl <| gz1 (.pointer (some ⟨g1, 32, none⟩)) <| gzl rfl ⟨g1, 32, none⟩ (.slice d.ra e.raw.length d.rc) (rg_cell (bx_range hX0) (j := 32) rfl (by kernel_rfl)) ?_
 simp only [pu]
 refine append_step rfl (some 5) rfl 41 rfl (.const (.slice none 0 0)) (.tmp 4) 41 rfl (.slice none 0 0) (.slice d.ra e.raw.length d.rc) (.slice a2 e.raw.length c2) V1 (by kernel_rfl) (by kernel_rfl) hap1 ?_
 simp only [pu]
 refine gz1 (.pointer (some ⟨g1, 32, none⟩)) <| gzs rfl (hst1) <| wn ?_
 simp only [pu]
 go_upto_region 2 with fail
 refine wl <| gz1 (.pointer (some ⟨g1, 40, none⟩)) <| gzl rfl ⟨g1, 40, none⟩ (.slice d.pa e.prs.length d.pc) (rg_cell (bx_range hX2) (j := 40) rfl (by kernel_rfl)) ?_
 simp only [pu]
 refine append_step rfl (some 9) rfl 22 rfl (.const (.slice none 0 0)) (.tmp 8) 22 rfl (.slice none 0 0) (.slice d.pa e.prs.length d.pc) (.slice a3 e.prs.length c3) V3 (by kernel_rfl) (by kernel_rfl) hap2 ?_
 simp only [pu]
 refine gz1 (.pointer (some ⟨g1, 40, none⟩)) <| gzs rfl (hst2) <| wn ?_
 simp only [pu]
 go_upto_region 3 with fail
 refine wl <| gzl rfl ⟨g1, 0, none⟩ (.agg (enA e ⟨a2, c2, a3, c3⟩)) (load_en (bx_range hX4)) <| gzs rfl (hst3) <| wn ?_
 simp only [pu]
 go_wp2_with fail
 exact bodyPost_ret (results_1c rfl (by kernel_rfl) (load_en (bx_range hY5))) rfl HE.out
end Go.Proofs.Ytmpajgaanghpoaa
