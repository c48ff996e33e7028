/-
  The walk of ShaStreams.
-/
import Derived.Test.YtfmfoangndladaaDoorDI
namespace Go.Proofs.YtfmfoangndladaaDoor
open Go.RowKit

/-- Slices of bytes lie in a row. -/
def Rw (w : World) (al : Option Addr) (n : Nat) : Prop :=
  ∀ i, i < n → ∃ b off a c L, al = some ⟨b, off, none⟩ ∧ w.cell? ⟨b, off + i, none⟩ = some (.slice a L.length c) ∧ Sl w a c L ∧ L.length ≤ c ∧ (∀ x, x ∈ L → W8 x) ∧ c ≤ 140737488351232

theorem Own.but {k B : Nat} {w w' : World} {v : Value} {L : List Int} (h : Own w B v L) (hb : But k w w') (hk : v.ownBlock ≠ some k) : Own w' B v L := by
  unfold Own at h ⊢
  refine ⟨h.1, ?_⟩
  rcases h.2 with hn | ⟨g, cap, cur, e, hB, hg, r⟩
  · exact .inl hn
  · refine .inr ⟨g, cap, cur, e, hB, ?_, r⟩
    rw [hb.2 g (Array.getElem?_eq_some_iff.1 hg).1 (by intro e'; subst e'; subst e; exact hk rfl)]
    exact hg
theorem Own.lt {w : World} {B : Nat} {v : Value} {L : List Int} (h : Own w B v L) (j : Nat) (hj : v.ownBlock = some j) : B ≤ j ∧ j < w.heap.size := World.ownsRow.lt h j hj
theorem But.sl' {g : Nat} {w w' : World} {a : Option Addr} {c : Nat} {L : List Int} (h : But g w w') (hs : Sl w a c L) (ho : L ≠ [] → Off a g) : Sl w' a c L := by
  by_cases hL : L = []
  · subst hL
    rcases hs with hn | ⟨x, e, -⟩
    · exact .inl hn
    · exact .inr ⟨x, e, fun k hk => by simp at hk⟩
  · exact h.sl hs (ho hL)
theorem dm_len (g : Nat) (M : List Int) (w : World) (h : DM w g M) : Calls Tryd.prog 13 #[.pointer (some ⟨g, 0, none⟩)] w fun e w' => e = .returned (.int .i64 (M.length : Nat)) ∧ w = w' := by
  obtain ⟨H, Bl, hd, hH, hB, -⟩ := h
  exact len_any w g H Bl M.length hd hH hB

theorem own_cells {w : World} {B c : Nat} {a : Option Addr} {L : List Int} (h : Own w B (.slice a L.length c) L) :
    ∃ g, (0 < L.length → a = some ⟨g, 0, none⟩) ∧ B ≤ g ∧ (∀ j, j < L.length → ∃ z, w.cell? ⟨g, j, none⟩ = some (.int .u8 z)) ∧ (∀ j, j < L.length → w.frozen? ⟨g, j, none⟩ = false) := by
  by_cases h0 : L.length = 0
  · exact ⟨B, fun h => by omega, Nat.le_refl _, fun j hj => by omega, fun j hj => by omega⟩
  · obtain ⟨a', c', e, hs, -⟩ := h.sl
    obtain ⟨rfl, -, rfl⟩ : a = a' ∧ L.length = L.length ∧ c = c' := by simpa using e
    rcases h.2 with ⟨hn, hn2⟩ | ⟨g, cap, cur, e, hB, hg, r⟩
    · exact absurd hn2 h0
    · obtain ⟨rfl, -⟩ : a = some ⟨g, 0, none⟩ ∧ True := by simp only [Value.slice.injEq] at e; exact ⟨e.1, trivial⟩
      refine ⟨g, fun _ => rfl, hB, fun j hj => ?_, fun j _ => frozen_of_row w g j cur 5 hg⟩
      obtain ⟨b, off, e2, -, hc⟩ := sl_at hs hj
      obtain ⟨rfl, rfl⟩ : g = b ∧ 0 = off := by simpa using e2
      rw [Nat.zero_add] at hc
      exact ⟨_, hc⟩

set_option maxRecDepth 100000 in
set_option maxHeartbeats 8000000 in
theorem streams_core (al : Option Addr) (n cap : Nat) (ask : Int) (w : World) (hR : Rw w al n) (hn : n ≤ 9223372036854775807) (hask : W8 ask) (hG : Glob w) :
    Calls Tryd.prog 4 #[.slice al n cap, .int .u8 ask] w fun e w' => e = .returned (.bool true) ∧ Below w.heap.size w w' := by
  have hg2 := hG.size
  obtain ⟨i0, hi0, hz0, hz1, hz2⟩ := info_parts info5
  have HI := Lib.hid hi0
  have HZ0 := Lib.hid hz0
  have HZ1 := Lib.hid hz1
  have HZ2 := Lib.hid hz2
  clear hi0 hz0 hz1 hz2
  have CN1 := new_any w hG
  have hbN := (Below.refl w.heap.size w).alloc (Nat.le_refl _) (.cells (digs h0s z64 0).toArray 43)
  have hM1 := DM.new w
  generalize w.alloc (.cells (digs h0s z64 0).toArray 43) = W at *
  have HM1 := Lib.hid hM1
  have HBW := Lib.hid hbN
  have HG := Lib.hid hG
  have HR := Lib.hid hR
  have HASK := Lib.hid hask
  clear hG hbN hM1 hR hask
  go_enter Tryd.func4, Tryd.ntmps4
  go_wp2_with (go_at_call 10; refine CN1.mono ?_; rintro e w1 ⟨rfl, rfl⟩)
  go_loopg [6, 16] n (fun g s6 s16 wx => ∃ (i : Nat) (M : List Int), i ≤ n ∧ s16 = .int .i64 i ∧ M.length ≤ 400 ∧ (∀ x, x ∈ M → W8 x) ∧ DM wx w.heap.size M ∧ Own wx (w.heap.size + 1) s6 M ∧ Below w.heap.size w wx ∧ n - i = g)
  case atStart => exact ⟨0, [], by omega, by go_num, by simp, by simp, HM1.out, Own.nil _ _, HBW.out, rfl⟩
  case round =>
    clear HM1 HBW CN1
    obtain ⟨i, M, hi, rfl, hMl, h8M, hD, hO, hbw, hgk⟩ := hrel
    by_cases hlt : i < n
    · obtain ⟨b, off, a, c, L, rfl, hcell, hsl, hlc, h8L, hc47⟩ := HR.out i hlt
      have xc : wr.cell? ⟨b, off + i, none⟩ = some (.slice a L.length c) := (hbw.cell (World.block_lt_of_cell? w _ hcell)).trans hcell
      have hslr := sl_below hsl hbw
      have hoff := fun g (hg : w.heap.size ≤ g) => hsl.off hg
      clear hcell hsl
      by_cases hbr : M.length + L.length ≤ 400 ∧ i ≤ 40
      · obtain ⟨hb1, hb2⟩ := hbr
        have hA' : decide ((400 : Int) < (M.length : Int) + (L.length : Int)) = false := decide_eq_false (by omega)
        have h40 : decide ((40 : Int) < (i : Int)) = false := decide_eq_false (by omega)
        obtain ⟨a6, c6, rfl, hsl6, hc6⟩ := hO.sl
        have hGr := HG.out.below hg2 hbw
        have hsz := hbw.size
        have hslr1 := sl_below hslr ((Below.refl wr.heap.size wr).alloc (Nat.le_refl _) (.cells #[] 5))
        have HSLR := Lib.hid hslr
        have HSLR1 := Lib.hid hslr1
        have HD := Lib.hid hD
        have HO := Lib.hid hO
        have HBW := Lib.hid hbw
        have H8M := Lib.hid h8M
        have H8L := Lib.hid h8L
        have HGR := Lib.hid hGr
        clear hslr hslr1 hD hO hbw h8M h8L hGr hsl6
        go_upto_region 10 with (at_builtin; refine append_src rfl _ _ 22 rfl wr.heap.size i0 Tryd.underlying22 HI.out HZ0.out HZ1.out HZ2.out _ 0 [] rfl (own_empty wr) a L.length c L rfl rfl HSLR1.out (by omega) (by simp) ?_; intro v9 w1 ho9 hg9; have hb9 := after_append (w0 := wr) (Nat.le_refl _) (by simp) (own_empty wr) ((Below.refl _ wr).alloc (Nat.le_refl _) _) hg9; clear hg9)
        have hO9 : Own w1 wr.heap.size v9 L := by
          unfold Own
          simpa using ho9
        clear ho9
        obtain ⟨a9, c9, rfl, hsl9, hc9⟩ := hO9.sl
        have hoff9 : L ≠ [] → ∃ g9, a9 = some ⟨g9, 0, none⟩ ∧ wr.heap.size ≤ g9 ∧ g9 < w1.heap.size := fun h => own_at hO9 (List.length_pos_iff.2 h)
        have CW := write_any w.heap.size M L a9 c9 w1 (HGR.out.below HGR.out.size hb9) hg2 (HD.out.below HD.out.lt hb9) hsl9 (fun h => by
          obtain ⟨g9, rfl, h1, -⟩ := hoff9 h
          intro x hx
          cases hx
          have := HD.out.lt
          simp
          omega) hc9 H8L.out (by omega)
        go_upto_region 11 with (go_at_call 11; refine CW.mono ?_; rintro e w2 ⟨rfl, hD2, hbut2⟩)
        have hO6 : Own w2 (w.heap.size + 1) (.slice a6 M.length c6) M := ((HO.out.below hb9).but hbut2 (fun e => by have := (HO.out.lt _ e).1; omega))
        have hO9' : Own w2 wr.heap.size (.slice a9 L.length c9) L := hO9.but hbut2 (fun e => by have := (hO9.lt _ e).1; have := HD.out.lt; omega)
        have hoff6 : ∀ j, (Value.slice a6 M.length c6).ownBlock = some j → j < wr.heap.size := fun j hj => (HO.out.lt j hj).2
        have hsl2 : Sl w2 a c L := hbut2.sl' (sl_below HSLR.out hb9) (hoff _ (Nat.le_refl _))
        obtain ⟨g9, hg9, hg9a, hcl, hfz⟩ := own_cells hO9'
        have hlD := HD.out.lt
        have hb12 := HBW.out.trans (hb9.mono hsz)
        have hbw2 := hb12.trans (hbut2.below (Nat.le_refl _))
        have hsz2 := hbut2.1.size
        have hsz1 := hb9.size
        have HD2 := Lib.hid hD2
        have HO6 := Lib.hid hO6
        have HSL2 := Lib.hid hsl2
        have HBW2 := Lib.hid hbw2
        have HOFF6 := Lib.hid hoff6
        have HOFF := Lib.hid hoff
        clear hD2 hO6 hsl2 hbw2 hb12 hoff6 hoff hO9 hO9' hsl9 hoff9 CW hbut2 hb9
        go_wp2_with fail
        generalize wr = wR at *
        go_loopg [39] L.length (fun g s39 wx => ∃ k : Nat, k ≤ L.length ∧ s39 = .int .i64 k ∧ But g9 w2 wx ∧ (∀ j, j < L.length → ∃ z, wx.cell? ⟨g9, j, none⟩ = some (.int .u8 z)) ∧ (∀ j, j < L.length → wx.frozen? ⟨g9, j, none⟩ = false) ∧ L.length - k = g)
        case atStart => exact ⟨0, by omega, by go_num, But.refl _ _, hcl, hfz, rfl⟩
        case round =>
          clear hcl hfz
          obtain ⟨k, hk, rfl, hbk, hck, hfk, hgk2⟩ := hrel
          by_cases hltk : k < L.length
          · obtain ⟨z, xz⟩ := hck k hltk
            have xf := hfk k hltk
            have HCK := Lib.hid hck
            have HFK := Lib.hid hfk
            have HBK := Lib.hid hbk
            clear hck hfk hbk
            have ha9 := hg9 (by omega)
            subst ha9
            go_wp2_with fail
            go_roundg (L.length - (k + 1))
            case measure => omega
            case rel =>
              refine ⟨k + 1, by omega, by go_num, HBK.out.trans (But.setCell _ _ _), fun j hj => ?_, fun j hj => ?_, rfl⟩
              · by_cases e : j = k
                · subst e
                  exact ⟨_, World.cell?_setCell_same _ _ _ xz⟩
                · obtain ⟨z', hz'⟩ := HCK.out j hj
                  exact ⟨z', (World.cell?_setCell_other _ _ _ _ (by simp)).trans hz'⟩
              · exact (World.frozen?_setCell _ _ _ _).trans (HFK.out j hj)
          · have hG5 : Glob wr := hbk.glob (by omega) (HG.out.below hg2 HBW2.out)
            have hD5 := HD2.out.but (by omega) hbk
            have hO5 : Own wr (w.heap.size + 1) (.slice a6 M.length c6) M := HO6.out.but hbk (fun e => by have := HOFF6.out _ e; omega)
            have hsl5 := hbk.sl' HSL2.out (HOFF.out _ (by omega))
            have hbw5 := HBW2.out.trans (hbk.below (by omega))
            have hlt5 := hD5.lt
            have HD5 := Lib.hid hD5
            have HO5 := Lib.hid hO5
            have HSL5 := Lib.hid hsl5
            have HBW5 := Lib.hid hbw5
            clear hG5 hD5 hO5 hsl5 hbw5 hck hfk hbk HD2 HO6 HSL2 HBW2
            go_upto_region 17 with (at_builtin; refine append_src rfl _ _ 22 rfl (w.heap.size + 1) i0 Tryd.underlying22 HI.out HZ0.out HZ1.out HZ2.out _ M.length _ rfl HO5.out a L.length c L rfl rfl HSL5.out (by omega) (by omega) ?_; intro v6 w6 ho6 hg6; have hb6 := after_append (w0 := wr) (B2 := w.heap.size + 1) (Nat.le_refl _) (by omega) HO5.out (Below.refl _ _) hg6; clear hg6)
            have hO7 : Own w6 (w.heap.size + 1) v6 (M ++ L) := by
              unfold Own
              rw [List.length_append, List.map_append]
              exact ho6
            obtain ⟨a7, c7, rfl, hsl7, hc7⟩ := hO7.sl
            have hD7 := HD5.out.below (by omega) hb6
            have hbw7 := HBW5.out.trans (hb6.mono (by omega))
            have hG7 := HG.out.below hg2 hbw7
            have hM7 : (M ++ L).length ≤ 400 := by simp; omega
            have h8M7 : ∀ x, x ∈ M ++ L → W8 x := fun x hx => by
              rcases List.mem_append.1 hx with h | h
              · exact H8M.out x h
              · exact H8L.out x h
            clear ho6 hb6
            generalize M ++ L = M7 at *
            obtain ⟨S, hS⟩ : ∃ S, S = shaL M7 := ⟨_, rfl⟩
            have hSl : S.length = 32 := by rw [hS]; exact shaL_len _
            have C1 := sum_any w.heap.size M7 w6 hG7 hg2 hD7 (by omega)
            have C2 := fun w' (hb : Below w6.heap.size w6 w') => ref_sha a7 c7 M7 w' (sl_below hsl7 hb) h8M7 (by omega)
            have C4 := fun w' (hb : Below w6.heap.size w6 w') => dm_len w.heap.size M7 w' (hD7.below hD7.lt hb)
            rw [← hS] at C1
            simp only [← hS] at C2
            have hke := fun w => key_in S hSl w
            have hkg := key_guard
            have hm8 : (i : Int) % 8 = ((i % 8 : Nat) : Int) := by omega
            have hml8 : i % 8 ≤ 8 := by omega
            generalize i % 8 = m at *
            have e1 : Op.shift .shr .u8 ask .i64 (m : Int) = (pure (.int .u8 (ask / 2 ^ m)) : Sem Value) := by
              rw [shift_shr .u8 .i64 ask m (by omega) (by simp [IntKind.bits]; omega)]; simp
            obtain ⟨q, hq⟩ : ∃ q, bits .and .u8 (ask / 2 ^ m) 1 = q := ⟨_, rfl⟩
            have HD7 := Lib.hid hD7
            have HO7 := Lib.hid hO7
            have HBW7 := Lib.hid hbw7
            have HM7 := Lib.hid hM7
            have H8M7 := Lib.hid h8M7
            have hr0 : Below w6.heap.size w6 w6 := Below.refl _ _
            clear hD7 hO7 hbw7 hM7 h8M7 hS hSl hsl7 hG7
            generalize hml : M7.length = ml at *
            have HML := Lib.hid hml
            clear hml
            by_cases hq1 : q = 1
            · have hqb : (q == 1) = true := by rw [hq1]; rfl
              go_wp2_with (first
                | (go_at_call 12; refine C1.mono ?_; rintro e w7 ⟨rfl, hb7⟩)
                | (go_at_call 9; refine (C2 _ hb7).mono ?_; rintro e w8 ⟨rfl, hb8'⟩; have hb8 := hb7.trans (hb8'.mono hb7.size); clear hb8')
                | (go_at_call 13; refine (C4 _ hb8).mono ?_; rintro e w' ⟨rfl, rfl⟩))
              go_roundg (n - (i + 1))
              case measure => omega
              case rel => exact ⟨i + 1, M7, by omega, by go_num, by rw [HML.out]; exact HM7.out, H8M7.out, HD7.out.below HD7.out.lt hb8, HO7.out.below hb8, HBW7.out.trans (hb8.mono HBW7.out.size), rfl⟩
            · have hqb : (q == 1) = false := by simpa using hq1
              go_wp2_with fail
              go_roundg (n - (i + 1))
              case measure => omega
              case rel => exact ⟨i + 1, M7, by omega, by go_num, by rw [HML.out]; exact HM7.out, H8M7.out, HD7.out, HO7.out, HBW7.out, rfl⟩
      · clear hslr hoff h8L
        have hLb : L.length ≤ 140737488351232 := by omega
        by_cases hA : 400 < M.length + L.length
        · have hA' : decide ((400 : Int) < (M.length : Int) + (L.length : Int)) = true := decide_eq_true (by omega)
          obtain ⟨S, hS⟩ : ∃ S, S = shaL M := ⟨_, rfl⟩
          have hSl : S.length = 32 := by rw [hS]; exact shaL_len _
          obtain ⟨a6, c6, rfl, hsl6, hc6⟩ := hO.sl
          have hGr := HG.out.below hg2 hbw
          have C1 := fun w' (hb : Below wr.heap.size wr w') => sum_any w.heap.size M w' (hGr.below hGr.size hb) hg2 (hD.below hD.lt hb) (by omega)
          have C2 := fun w' (hb : Below wr.heap.size wr w') => ref_sha a6 c6 M w' (sl_below hsl6 hb) h8M (by omega)
          have C3 := fun w' (hb : Below wr.heap.size wr w') => fsum_any M a6 c6 w' (hGr.below hGr.size hb) (sl_below hsl6 hb) (fun h => (sl_below hsl6 hb).off (by omega) h) hc6 h8M (by omega)
          have C4 := fun w' (hb : Below wr.heap.size wr w') => dm_len w.heap.size M w' (hD.below hD.lt hb)
          have C5 := fun w' (hb : Below wr.heap.size wr w') => known_true w' (hGr.below hGr.size hb)
          simp only [← hS] at C1 C2 C3
          have hr0 : Below wr.heap.size wr wr := Below.refl _ _
          have hke := fun w => key_in S hSl w
          have hkg := key_guard
          have HBW := Lib.hid hbw
          have HML := Lib.hid hMl
          clear hD hO hGr hbw hS hSl hsl6 h8M
          generalize hml : M.length = ml at *
          clear hml
          go_wp2_with (first
            | (have q := m4; go_at_call 13; refine (C4 _ hb4).mono ?_; rintro e w' ⟨rfl, rfl⟩)
            | (have q := m3; go_at_call 8; refine (C3 _ hb3).mono ?_; rintro e w4 ⟨rfl, hb4'⟩; have hb4 := hb3.trans (hb4'.mono hb3.size); have m4 := hg2; clear hb4')
            | (have q := m2; go_at_call 12; refine (C1 _ hb2).mono ?_; rintro e w3 ⟨rfl, hb3'⟩; have hb3 := hb2.trans (hb3'.mono hb2.size); have m3 := hg2; clear hb3')
            | (go_at_call 12; refine (C1 _ hr0).mono ?_; rintro e w1 ⟨rfl, hb1⟩; have m1 := hg2)
            | (go_at_call 9; refine (C2 _ hb1).mono ?_; rintro e w2 ⟨rfl, hb2'⟩; have hb2 := hb1.trans (hb2'.mono hb1.size); have m2 := hg2; clear hb2')
            | (go_at_call 7; refine (C5 _ hb4).mono ?_; rintro e w6 ⟨rfl, hb6'⟩; have hb6 := hb4.trans (hb6'.mono hb4.size); clear hb6'))
          go_ret
          exact ⟨rfl, HBW.out.trans (hb6.mono HBW.out.size)⟩
        · have hA' : decide ((400 : Int) < (M.length : Int) + (L.length : Int)) = false := decide_eq_false (by omega)
          have h40 : decide ((40 : Int) < (i : Int)) = true := decide_eq_true (by omega)
          obtain ⟨S, hS⟩ : ∃ S, S = shaL M := ⟨_, rfl⟩
          have hSl : S.length = 32 := by rw [hS]; exact shaL_len _
          obtain ⟨a6, c6, rfl, hsl6, hc6⟩ := hO.sl
          have hGr := HG.out.below hg2 hbw
          have C1 := fun w' (hb : Below wr.heap.size wr w') => sum_any w.heap.size M w' (hGr.below hGr.size hb) hg2 (hD.below hD.lt hb) (by omega)
          have C2 := fun w' (hb : Below wr.heap.size wr w') => ref_sha a6 c6 M w' (sl_below hsl6 hb) h8M (by omega)
          have C3 := fun w' (hb : Below wr.heap.size wr w') => fsum_any M a6 c6 w' (hGr.below hGr.size hb) (sl_below hsl6 hb) (fun h => (sl_below hsl6 hb).off (by omega) h) hc6 h8M (by omega)
          have C4 := fun w' (hb : Below wr.heap.size wr w') => dm_len w.heap.size M w' (hD.below hD.lt hb)
          have C5 := fun w' (hb : Below wr.heap.size wr w') => known_true w' (hGr.below hGr.size hb)
          simp only [← hS] at C1 C2 C3
          have hr0 : Below wr.heap.size wr wr := Below.refl _ _
          have hke := fun w => key_in S hSl w
          have hkg := key_guard
          have HBW := Lib.hid hbw
          have HML := Lib.hid hMl
          clear hD hO hGr hbw hS hSl hsl6 h8M
          generalize hml : M.length = ml at *
          clear hml
          go_wp2_with (first
            | (have q := m4; go_at_call 13; refine (C4 _ hb4).mono ?_; rintro e w' ⟨rfl, rfl⟩)
            | (have q := m3; go_at_call 8; refine (C3 _ hb3).mono ?_; rintro e w4 ⟨rfl, hb4'⟩; have hb4 := hb3.trans (hb4'.mono hb3.size); have m4 := hg2; clear hb4')
            | (have q := m2; go_at_call 12; refine (C1 _ hb2).mono ?_; rintro e w3 ⟨rfl, hb3'⟩; have hb3 := hb2.trans (hb3'.mono hb2.size); have m3 := hg2; clear hb3')
            | (go_at_call 12; refine (C1 _ hr0).mono ?_; rintro e w1 ⟨rfl, hb1⟩; have m1 := hg2)
            | (go_at_call 9; refine (C2 _ hb1).mono ?_; rintro e w2 ⟨rfl, hb2'⟩; have hb2 := hb1.trans (hb2'.mono hb1.size); have m2 := hg2; clear hb2')
            | (go_at_call 7; refine (C5 _ hb4).mono ?_; rintro e w6 ⟨rfl, hb6'⟩; have hb6 := hb4.trans (hb6'.mono hb4.size); clear hb6'))
          go_ret
          exact ⟨rfl, HBW.out.trans (hb6.mono HBW.out.size)⟩
    · obtain ⟨S, hS⟩ : ∃ S, S = shaL M := ⟨_, rfl⟩
      have hSl : S.length = 32 := by rw [hS]; exact shaL_len _
      obtain ⟨a6, c6, rfl, hsl6, hc6⟩ := hO.sl
      have hGr := HG.out.below hg2 hbw
      have C1 := fun w' (hb : Below wr.heap.size wr w') => sum_any w.heap.size M w' (hGr.below hGr.size hb) hg2 (hD.below hD.lt hb) (by omega)
      have C2 := fun w' (hb : Below wr.heap.size wr w') => ref_sha a6 c6 M w' (sl_below hsl6 hb) h8M (by omega)
      have C3 := fun w' (hb : Below wr.heap.size wr w') => fsum_any M a6 c6 w' (hGr.below hGr.size hb) (sl_below hsl6 hb) (fun h => (sl_below hsl6 hb).off (by omega) h) hc6 h8M (by omega)
      have C4 := fun w' (hb : Below wr.heap.size wr w') => dm_len w.heap.size M w' (hD.below hD.lt hb)
      have C5 := fun w' (hb : Below wr.heap.size wr w') => known_true w' (hGr.below hGr.size hb)
      simp only [← hS] at C1 C2 C3
      have hr0 : Below wr.heap.size wr wr := Below.refl _ _
      have hke := fun w => key_in S hSl w
      have hkg := key_guard
      have HBW := Lib.hid hbw
      have HML := Lib.hid hMl
      clear hD hO hGr hbw hS hSl hsl6 h8M
      generalize hml : M.length = ml at *
      clear hml
      go_wp2_with (first
        | (have q := m4; go_at_call 13; refine (C4 _ hb4).mono ?_; rintro e w' ⟨rfl, rfl⟩)
        | (have q := m3; go_at_call 8; refine (C3 _ hb3).mono ?_; rintro e w4 ⟨rfl, hb4'⟩; have hb4 := hb3.trans (hb4'.mono hb3.size); have m4 := hg2; clear hb4')
        | (have q := m2; go_at_call 12; refine (C1 _ hb2).mono ?_; rintro e w3 ⟨rfl, hb3'⟩; have hb3 := hb2.trans (hb3'.mono hb2.size); have m3 := hg2; clear hb3')
        | (go_at_call 12; refine (C1 _ hr0).mono ?_; rintro e w1 ⟨rfl, hb1⟩; have m1 := hg2)
        | (go_at_call 9; refine (C2 _ hb1).mono ?_; rintro e w2 ⟨rfl, hb2'⟩; have hb2 := hb1.trans (hb2'.mono hb1.size); have m2 := hg2; clear hb2')
        | (go_at_call 7; refine (C5 _ hb4).mono ?_; rintro e w6 ⟨rfl, hb6'⟩; have hb6 := hb4.trans (hb6'.mono hb4.size); clear hb6'))
      go_ret
      exact ⟨rfl, HBW.out.trans (hb6.mono HBW.out.size)⟩
end Go.Proofs.YtfmfoangndladaaDoor
