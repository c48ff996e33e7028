/-
 mempoolmake's Entries: contract.
-/
import Derived.Test.YtgkckblcekbafaaWK
namespace Go.Proofs.Ytgkckblcekbafaa
attribute [local irreducible] wpList wpQuiet
open Go.RowKit
set_option maxRecDepth 100000
set_option linter.unusedSimpArgs false
set_option linter.unusedVariables false

/-- What is known while entries are made: the numbers, the row, the entries in it. -/
structure EnS (w0 V : World) (g c : Nat) (a : Option Addr) (L : List Int) (N : Nat) (v : Value) (X : List (En × Ad)) : Prop where
 nm : Nm V g a c L N
 gl : g < w0.heap.size
 but : But g w0 V
 row : Rowee V w0.heap.size v X
 own : ∀ x ∈ X, EnW V w0.heap.size x.1 x.2
 sz : ∀ x ∈ X, x.1.snd ∈ nms ∧ x.1.raw.length ≤ 8 ∧ x.1.prs.length ≤ 2
section
variable {w0 V V' : World} {g c N N' : Nat} {a : Option Addr} {L : List Int} {v : Value} {X : List (En × Ad)}
theorem EnW.butl {B : Nat} {e : En} {d : Ad} (h : EnW V B e d) (hb : But g V V') (hg : g < B) : EnW V' B e d :=
 ⟨own_butq h.r hb fun x hx => by have := (h.r.lt x.block (by rw [hx]; rfl)).1; omega, own_butq h.p hb fun x hx => by have := (h.p.lt x.block (by rw [hx]; rfl)).1; omega⟩
theorem EnW.mono {B B2 : Nat} {e : En} {d : Ad} (h : EnW V B2 e d) (hB : B ≤ B2) : EnW V B e d := ⟨own_mono h.r hB, own_mono h.p hB⟩
theorem EnS.size (h : EnS w0 V g c a L N v X) : w0.heap.size ≤ V.heap.size := h.but.1.size
theorem EnS.below (h : EnS w0 V g c a L N v X) (hb : Below V.heap.size V V') : EnS w0 V' g c a L N v X :=
 ⟨h.nm.below hb, h.gl, h.but.trans (But.of_below hb (by have := h.size; have := h.gl; omega)), own_below h.row hb, fun x hx => (h.own x hx).below hb, h.sz⟩
theorem EnS.next (h : EnS w0 V g c a L N v X) (hn : Nm V' g a c L N') (hb : But g V V') : EnS w0 V' g c a L N' v X := by
 obtain ⟨a2, c2, rfl, -, -⟩ := h.row.cs
 exact ⟨hn, h.gl, h.but.trans hb, own_butq h.row hb fun x hx => by have := (h.row.lt x.block (by rw [hx]; rfl)).1; have := h.gl; omega, fun x hx => (h.own x hx).butl hb h.gl, h.sz⟩
/-- A box besides them is written. -/
theorem EnS.set {q : Nat} {cs : Array Value} (h : EnS w0 V g c a L N v X) (hb : But q V V') (hX : Bx V q cs 50) (hq : w0.heap.size ≤ q) (hr : ∀ x n2 c2, v = .slice (some x) n2 c2 → x.block < q) : EnS w0 V' g c a L N v X := by
 obtain ⟨a2, c2, rfl, -, -⟩ := h.row.cs
 have hgl := h.gl
 exact ⟨h.nm.but hb (by omega), h.gl, ⟨h.but.1.trans (hb.1.mono (by omega)), fun k hk hn => (hb.2 k (Nat.lt_of_lt_of_le hk h.size) (by omega)).trans (h.but.2 k hk hn)⟩, own_butq h.row hb fun x hx => by have := hr x _ _ (by rw [hx]); omega, fun x hx => enw_but (h.own x hx) hX hb, h.sz⟩
theorem EnS.rb (h : EnS w0 V g c a L N v X) : ∀ x n2 c2, v = .slice (some x) n2 c2 → x.block < V.heap.size := fun x n2 c2 e => (h.row.lt x.block (by rw [e]; rfl)).2
/-- One entry more. -/
theorem EnS.push (h : EnS w0 V g c a L N v X) (hl : X.length ≤ 1000) (e : En) (d : Ad) (hw : EnW V w0.heap.size e d) (hs : e.snd ∈ nms ∧ e.raw.length ≤ 8 ∧ e.prs.length ≤ 2) :
  ∃ v2 V2, (Builtin.append_ #[22, 22] 22 #[v, .slice (some ⟨V.heap.size, 0, none⟩) 1 1]).run Try.prog (V.alloc (.cells (enA e d) 50)) = .ok v2 V2 ∧ EnS w0 V2 g c a L N v2 (X ++ [(e, d)]) := by
 have hb : Below V.heap.size V (V.alloc (.cells (enA e d) 50)) := (Below.refl _ V).alloc (Nat.le_refl _) _
 have hc : Cs (V.alloc (.cells (enA e d) 50)) (some ⟨V.heap.size, 0, none⟩) (ens [(e, d)]) := ens_of (x := (e, d)) (heap_alloc_last V (.cells (enA e d) 50))
 have h1 := h.below hb
 have hw1 := hw.below hb
 obtain ⟨v2, V2, hr, hO2, hb2, hg2, hat2⟩ := app_ee h1.row (Nat.le_trans h.size hb.size) (some ⟨V.heap.size, 0, none⟩) 1 1 [(e, d)] hc rfl (by omega) (by omega)
 obtain ⟨a2, c2, rfl, -, -⟩ := h1.row.cs
 have keep : ∀ {B2 e2 s2 n2 c3 : Nat} {a3 : Option Addr} {xs : List Value}, (V.alloc (.cells (enA e d) 50)).ownsRow B2 e2 s2 (.slice a3 n2 c3) n2 xs → e2 ≠ 50 → V2.ownsRow B2 e2 s2 (.slice a3 n2 c3) n2 xs := fun {B2 e2 s2 n2 c3 a3 xs} ho he => own_same ho fun x hx => hg2.block x.block (ho.lt x.block (by rw [hx]; rfl)).2 fun q => by
  unfold Value.ownBlock at q
  cases a2 with
  | none => simp at q
  | some y =>
   simp at q
   rcases h1.row.2 with ⟨e0, -⟩ | ⟨b, cap, cur, e0, -, hcur, -⟩
   ·cases e0
   ·simp only [Value.slice.injEq, true_and, Option.some.injEq] at e0
    have hyb : y.block = b := by rw [e0.1]
    exact own_box ho (g := b) (t := 50) (cs := cur) hcur (fun e9 => he e9.symm) x hx (by rw [q, hyb])
 refine ⟨v2, V2, hr, h.nm.low ((hb.mono h.size).trans hb2) h.gl, h.gl, ⟨h1.but.1.trans (hb2.mono (Nat.le_of_lt h.gl)), fun k hk hn => (hb2.block k hk).trans (h1.but.2 k hk hn)⟩, hO2, fun x hx => ?_, fun x hx => ?_⟩
 ·rcases List.mem_append.1 hx with hx | hx
  ·exact ⟨keep (h1.own x hx).r (by decide), keep (h1.own x hx).p (by decide)⟩
  ·rw [List.mem_singleton.1 hx]
   exact ⟨keep hw1.r (by decide), keep hw1.p (by decide)⟩
 ·rcases List.mem_append.1 hx with hx | hx
  ·exact h.sz x hx
  ·rw [List.mem_singleton.1 hx]; exact hs
/-- The next number is known. -/
theorem nxq (L : List Int) (N : Nat) (hl : L.length ≤ 100000) (hN : N ≤ 100000) (n : Int) (hn : 0 < n) (hn2 : n ≤ 1000000) : ∃ q : Nat, (q : Int) < n ∧ ∀ (V : World) (g c : Nat) (a : Option Addr), Nm V g a c L N → Calls Try.prog 15 #[.pointer (some ⟨g, 0, none⟩), .int .i64 n] V fun e w' => e = .returned (.int .i64 q) ∧ Nm w' g a c L (N + 1) ∧ But g V w' := by
 have hp := pl_range (L.getD N 0) n hn
 refine ⟨(pl (L.getD N 0) n).toNat, by omega, fun V g c a h => (nx h hl hN n hn hn2).mono ?_⟩
 rintro e w' ⟨⟨v, h1, -, h2⟩, h3, h4⟩
 refine ⟨by rw [h1, show v = (pl (L.getD N 0) n).toNat by omega], h3, h4⟩
end
/-- The region that reckons an entry's order. -/
structure K13 (b1 b5 b9 : Bool) (V U0 : World) (g c g7 : Nat) (a : Option Addr) (L : List Int) (N : Nat) (e e2 : En) (d : Ad) : Prop where
 a0 : b5 = false → Nm V g a c L N
 a1 : b5 = true → Nm V g a c L (N + 1)
 bt : b9 = false → But g U0 V
 x : b9 = false → Bx V g7 (enA e d) 50
 y : b9 = true → Bx V g7 (enA e2 d) 50 ∧ ∃ U, But g U0 U ∧ But g7 U V ∧ Bx U g7 (enA e d) 50 ∧ Nm U g a c L (N + 1)
 o : b9 = true → b5 = true
 p : b9 = true → b1 = true
set_option maxRecDepth 100000 in
set_option maxHeartbeats 8000000 in
theorem mk_entries {w : World} {g c N : Nat} {a : Option Addr} {L : List Int} (h : Nm w g a c L N) (hl : L.length ≤ 100000) (hN : N ≤ 40000) : Calls Try.prog 10 #[.pointer (some ⟨g, 0, none⟩), .int .i64 10] w fun e w' => ∃ a2 c2 X N', e = .returned (.slice a2 X.length c2) ∧ EnS w w' g c a L N' (.slice a2 X.length c2) X ∧ X.length ≤ 10 ∧ N' ≤ N + 400 := by
 have HL : Hid (L.length ≤ 100000 ∧ N ≤ 40000 ∧ g < w.heap.size) := Lib.hid ⟨hl, hN, h.lt⟩
 obtain ⟨z, hz, hcz⟩ := nxq L N hl (by omega) 11 (by omega) (by omega)
 have hc0 := hcz w g c a h
 have HNM := Lib.hid h
 have HZ : Hid (z ≤ 10) := Lib.hid (by omega)
 clear h hl hN hcz hz
 go_enter Try.func10, Try.ntmps10
 go_upto_region 1 with fail
 refine wl <| gz1 (.slice none 0 0) <| wn ?_
 simp only [pu]
 go_upto_region 2 with fail
 refine wl <| gz3 (.pointer (some ⟨g, 0, none⟩)) (.int .i64 10) (.int .i64 11) <| gzc (.int .i64 z) (fun w' => Nm w' g a c L (N + 1) ∧ But g w w') (hc0) (fun W1 hW1 => ?_)
 simp only [pu]
 refine gz1 (.int .i64 z) <| wn ?_
 simp only [pu]
 have HS0 : Hid (EnS w W1 g c a L (N + 1) (.slice none 0 0) []) := Lib.hid ⟨hW1.1, HL.out.2.2, hW1.2, World.ownsRow_nil _ _ _ _, (fun x hx => (by cases hx)), (fun x hx => (by cases hx))⟩
 clear hc0 hW1 HNM
 go_wp2_with fail
 go_loopg [5, 6] z (fun gg s5 s6 wx => ∃ (k N' : Nat) (v : Value) (X : List (En × Ad)), s5 = v ∧ s6 = .int .i64 k ∧ gg = k ∧ Hid (X.length + k ≤ 10 ∧ N' + 31 * k ≤ N + 1 + 310) ∧ Hid (EnS w wx g c a L N' v X))
 case atStart => exact ⟨z, N + 1, _, [], rfl, rfl, rfl, Lib.hid (by have := HZ.out; simp; omega), HS0⟩
 case round =>
  obtain ⟨k, N1, v, X, rfl, rfl, hg, HK, HS⟩ := hrel
  clear HS0
  have HGK : Hid (gk = k) := Lib.hid hg
  clear hg
  obtain ⟨a9, c9, rfl, -, hc9⟩ := HS.out.row.cs
  obtain ⟨m, hm⟩ : ∃ m, X.length = m := ⟨_, rfl⟩
  have HM : Hid (X.length = m ∧ m ≤ c9) := Lib.hid ⟨hm, by omega⟩
  rw [hm]
  clear hc9 hm
  obtain ⟨wR, rfl⟩ : ∃ wR, wR = wr := ⟨_, rfl⟩
  by_cases hk0 : 0 < k
  ·skip
   have hce := mk_entry HS.out.nm HL.out.1 (by have := HL.out; have := HK.out; omega)
   go_upto_region 3 with fail
   refine wl <| gz1 (.int .i64 k) <| gzb (gtr_n rfl (k) (0) dT) <| wn ?_
   simp only [pu]
   go_upto_region 5 with fail
   refine wl <| gz1 (.pointer (some ⟨g, 0, none⟩)) <|
    gze (fun v w' => ∃ (E : En) (d : Ad) (N' : Nat), v = .agg (enA E d) ∧ EnW w' wR.heap.size E d ∧ E.raw.length ≤ 8 ∧ EnF E ∧ E.prs.length ≤ 2 ∧ N1 + 1 ≤ N' ∧ N' ≤ N1 + 30 ∧ Nm w' g a c L N' ∧ But g wR w') (hce.mono fun e9 w' z => by obtain ⟨E, d, N', h1, h2⟩ := z; exact ⟨_, h1, E, d, N', rfl, h2⟩) (fun vv W2 hq => ?_)
   obtain ⟨E, d, N2, rfl, hew, hraw, hef, hprs, hn1, hn2, hnm, hbt⟩ := hq
   have hs2 := HS.out.next hnm hbt
   have hew2 : EnW W2 w.heap.size E d := hew.mono HS.out.size
   obtain ⟨V2, hst2, hb2, hX7⟩ := new_bx (c := enA zEn zAd) (c' := enA E d) (ty := 50) W2 rfl (enA_one _ _) (by kernel_rfl)
   have hrb := hs2.rb
   have HS2 : Hid (EnS w V2 g c a L N2 (.slice a9 X.length c9) X ∧ EnW V2 w.heap.size E d) := Lib.hid ⟨hs2.below hb2, hew2.below hb2⟩
   have HE : Hid (E.snd ∈ nms ∧ E.raw.length ≤ 8 ∧ E.prs.length ≤ 2 ∧ 0 ≤ E.od ∧ E.od ≤ 8) := Lib.hid ⟨hef.1, hraw, hprs, hef.2.2.2.2.1, hef.2.2.2.2.2⟩
   have HN2 : Hid (N2 ≤ N1 + 30) := Lib.hid hn2
   obtain ⟨g7, hg7⟩ : ∃ q, W2.heap.size = q := ⟨_, rfl⟩
   have HG7 : Hid (w.heap.size ≤ g7 ∧ ∀ x n2 c2, Value.slice a9 X.length c9 = .slice (some x) n2 c2 → x.block < g7) := Lib.hid ⟨by rw [← hg7]; exact hs2.size, by rw [← hg7]; exact hrb⟩
   rw [hg7] at hX7
   have HX7 := Lib.hid hX7
   clear hce hew hraw hef hprs hn1 hn2 hnm hbt hs2 hew2 hb2 hrb hX7
   simp only [pu]
   refine run_to rfl (some 7) rfl (.pointer (some ⟨W2.heap.size, 0, none⟩)) (W2.alloc (.cells (enA zEn zAd) 50)) (by kernel_rfl) ?_
   simp only [pu]
   refine gzs rfl (hst2) <| wn ?_
   rw [hg7]
   clear hst2 hg7
   go_upto_region 6 with fail
   refine wl <| gz1 (.bool false) <| wn ?_
   simp only [pu]
   go_upto_region 7 with fail
   refine wl <| gz3 (.slice a9 m c9) (.int .i64 m) (.int .i64 0) <| wn ?_
   simp only [pu]
   go_wp2_with fail
   go_loopg [8, 23] m (fun gg s8 s23 wx => ∃ (j : Nat) (t : Bool), s8 = .bool t ∧ s23 = .int .i64 j ∧ j ≤ m ∧ gg + j = m ∧ Hid (Below V2.heap.size V2 wx))
   case atStart => exact ⟨0, false, rfl, rfl, by omega, by omega, Lib.hid (Below.refl _ _)⟩
   case round =>
    obtain ⟨j, t, rfl, rfl, hjm, hg, HR⟩ := hrel
    have HGJ : Hid (gk + j = m) := Lib.hid hg
    clear hg
    by_cases hlt : j < m
    ·skip
     have hcs : Cs wr a9 (ens X) := by
      obtain ⟨a8, c8, e8, h8, -⟩ := (HS2.out.1.below HR.out).row.cs
      simp only [Value.slice.injEq] at e8
      rw [e8.1]
      exact h8
     obtain ⟨b, off, hbb, -, hrg⟩ := fl_range enp enp_len (by omega) zEA hcs (i := j) (by rw [HM.out.1]; exact hlt)
     obtain rfl := hbb
     obtain ⟨x, hx⟩ : ∃ x, X.getD j zEA = x := ⟨_, rfl⟩
     rw [hx] at hrg
     obtain ⟨V3, hst3, hb3, hX10⟩ := new_bx (c := enA zEn zAd) (c' := enA x.1 x.2) (ty := 50) wr rfl (enA_one _ _) (by kernel_rfl)
     have hX7 := (HX7.out.below HX7.out.lt HR.out).below (HX7.out.below HX7.out.lt HR.out).lt hb3
     have HR3 : Hid (Below V2.heap.size V2 V3) := Lib.hid (HR.out.trans (hb3.mono HR.out.size))
     obtain ⟨g10, hg10⟩ : ∃ q, wr.heap.size = q := ⟨_, rfl⟩
     rw [hg10] at hX10
     clear hcs hx hb3
     go_upto_region 8 with fail
     refine wl <| gzb (lss_n rfl (j) (m) dT) <| wn ?_
     simp only [pu]
     go_upto_region 9 with fail
     refine wl <| gzv (.pointer (some ⟨b, off + j * 41, none⟩)) (idx_en b off m c9 j hlt _ _ _ rfl (by kernel_rfl) (by kernel_rfl)) <| gzl rfl ⟨b, off + j * 41, none⟩ (.agg (enA x.1 x.2)) (load_en hrg) ?_
     simp only [pu]
     refine run_to rfl (some 10) rfl (.pointer (some ⟨wr.heap.size, 0, none⟩)) (wr.alloc (.cells (enA zEn zAd) 50)) (by kernel_rfl) ?_
     simp only [pu]
     refine gzs rfl (hst3) <| wn ?_
     rw [hg10]
     clear hst3 hrg hg10
     cases t with
     | true =>
      go_upto_region 10 with fail
      refine wl <| gz6 (.bool true) (.bool true) undef undef undef undef <| gz3 undef (.bool true) (.bool true) <| wn ?_
      simp only [pu]
      clear hX10 hX7
      go_upto_region 11 with fail
      refine wl <| gzv (.int .i64 (j + 1 : Nat)) (add_one rfl j (by have := HK.out; have := HM.out; omega) (by kernel_rfl) _) <| gz1 (.int .i64 (j + 1 : Nat)) <| wn ?_
      simp only [pu]
      go_wp2_with fail
      go_roundg (m - (j + 1))
      case measure => have := HGJ.out; omega
      case rel => exact ⟨j + 1, _, rfl, rfl, by omega, by omega, HR3⟩
     | false =>
      obtain ⟨q, hq⟩ : ∃ q, keq x.1.k E.k = q := ⟨_, rfl⟩
      go_upto_region 10 with fail
      refine wl <| gz3 (.bool false) (.bool false) (.pointer (some ⟨g10, 0, none⟩)) <| gzl rfl ⟨g10, 0, none⟩ (.agg (kcA x.1.k)) (load_ky (bx_range hX10)) <| gz1 (.pointer (some ⟨g7, 0, none⟩)) <| gzl rfl ⟨g7, 0, none⟩ (.agg (kcA E.k)) (load_ky (bx_range hX7)) <|
       gzw (.bool q) (eql_kk rfl x.1.k E.k hq) <| gz2 (.bool q) (.bool q) <| wn ?_
      simp only [pu]
      clear hX10 hX7
      go_upto_region 11 with fail
      refine wl <| gzv (.int .i64 (j + 1 : Nat)) (add_one rfl j (by have := HK.out; have := HM.out; omega) (by kernel_rfl) _) <| gz1 (.int .i64 (j + 1 : Nat)) <| wn ?_
      simp only [pu]
      go_wp2_with fail
      go_roundg (m - (j + 1))
      case measure => have := HGJ.out; omega
      case rel => exact ⟨j + 1, _, rfl, rfl, by omega, by omega, HR3⟩
    ·skip
     obtain rfl : j = m := by omega
     go_upto_region 8 with fail
     refine wl <| gzb (lss_n rfl (j) (j) dF) <| wn ?_
     simp only [pu]
     cases t with
     | true =>
      go_upto_region 12 with fail
      refine wl <| gz2 (.bool true) (.bool false) <| wn ?_
      simp only [pu]
      go_upto_region 4 with fail
      refine wl <| gz1 (.int .i64 k) <| gzw (.int .i64 ((k - 1 : Nat) : Int)) (sub_nn rfl k 1 (by omega) (by have := HK.out; omega)) <| gz1 (.int .i64 ((k - 1 : Nat) : Int)) <| wn ?_
      simp only [pu]
      go_wp2_with fail
      go_roundg (k - 1)
      case measure => have := HGK.out; omega
      case rel => exact ⟨k - 1, N2, _, X, by rw [HM.out.1], rfl, rfl, Lib.hid (by have := HK.out; have := HN2.out; omega), Lib.hid ((HS2.out.1.below HR.out))⟩
     | false =>
      go_upto_region 12 with fail
      refine wl <| gz2 (.bool false) (.bool true) <| wn ?_
      simp only [pu]
      obtain ⟨q, hq2, hcq⟩ := nxq L N2 HL.out.1 (by have := HL.out; have := HK.out; have := HN2.out; omega) 2 (by omega) (by omega)
      have HQ : Hid (q ≤ 1) := Lib.hid (by omega)
      have HCQ := Lib.hid hcq
      have hs3 := HS2.out.1.below HR.out
      have hX7 := HX7.out.below HX7.out.lt HR.out
      have hs4 := hs3.below ((Below.refl _ wr).drew)
      have hew4 := (HS2.out.2.below HR.out).below ((Below.refl _ wr).drew)
      obtain ⟨e2, he2⟩ : ∃ e2 : En, { E with od := E.od + (j * q : Nat) } = e2 := ⟨_, rfl⟩
      have HE2 := Lib.hid he2
      have HS4 : Hid (EnS w wr.drew g c a L N2 (.slice a9 X.length c9) X ∧ EnW wr.drew w.heap.size E d) := Lib.hid ⟨hs4, hew4⟩
      have HMU : Hid (j * q ≤ 10 ∧ j ≤ 10) := Lib.hid (by
       have h1 := HQ.out
       have h2 := HK.out
       have h3 := HM.out
       rcases (by omega : q = 0 ∨ q = 1) with h4 | h4
       ·subst h4; omega
       ·subst h4; omega)
      have h0 : K13 false false false wr.drew wr.drew g c g7 a L N2 E e2 d := ⟨fun _ => hs4.nm, fun h => (by cases h), fun _ => But.refl _ _, fun _ => hX7, fun h => (by cases h), fun h => (by cases h), fun h => (by cases h)⟩
      obtain ⟨U0, hU0⟩ : ∃ U, wr.drew = U := ⟨_, rfl⟩
      clear hq2 hcq hs3 hX7 hs4 hew4 he2
      go_upto_region 13 with fail
      refine wp_region_inv (fun listed act9 V => ∃ b0 b1 b2 b3 b4 b5 b6 b7 b8 b9 : Bool, listed = #[b0, b1, b2, b3, b4, b5, b6, b7, b8, b9] ∧ act9 = { tmps := #[.pointer (some ⟨g, 0, none⟩), .int .i64 10, undef, undef, .slice none 0 0, .slice a9 j c9, .int .i64 k, .pointer (some ⟨g7, 0, none⟩), .bool false, undef, u10, .pointer (some ⟨g, 0, none⟩), .int .i64 10, .int .i64 11, .int .i64 z, .int .i64 k, .bool true, u17, u18, .pointer (some ⟨g, 0, none⟩), .agg (enA E d), .slice a9 j c9, .int .i64 j, .int .i64 j, .bool false, u25, u26, u27, u28, u29, u30, u31, u32, u33, u34, u35, .bool false, .bool true, (cond b0 (.pointer (some ⟨g7, 39, none⟩)) (u38)), (cond b1 (.int .i64 E.od) (u39)), (cond b2 (.slice a9 j c9) (u40)), (cond b3 (.int .i64 j) (u41)), (cond b4 (.pointer (some ⟨g, 0, none⟩)) (u42)), (cond b5 (.int .i64 q) (u43)), (cond b6 (.int .i64 ((j * q : Nat) : Int)) (u44)), (cond b7 (.int .i64 (E.od + (j * q : Nat))) (u45)), (cond b8 (.pointer (some ⟨g7, 39, none⟩)) (u46)), u47, u48, u49, u50, undef], defers := [] } ∧ K13 b1 b5 b9 V wr.drew g c g7 a L N2 E e2 d) (by kernel_rfl) (by kernel_rfl) ?_ ?_ ?_
      ·exact ⟨false, false, false, false, false, false, false, false, false, false, rfl, rfl, h0⟩
      ·intro i9 listed act9 V hi9 hr hJ
       obtain ⟨b0, b1, b2, b3, b4, b5, b6, b7, b8, b9, rfl, rfl, hF⟩ := hJ
       have hi2 : i9 < 10 := hi9
       have hi3 : i9 = 0 ∨ i9 = 1 ∨ i9 = 2 ∨ i9 = 3 ∨ i9 = 4 ∨ i9 = 5 ∨ i9 = 6 ∨ i9 = 7 ∨ i9 = 8 ∨ i9 = 9 := by omega
       rcases hi3 with rfl | rfl | rfl | rfl | rfl | rfl | rfl | rfl | rfl | rfl
       ·obtain rfl : b0 = false := ready_self hr
        refine st_val rfl (by kernel_rfl) (some 38) rfl (.pointer (some ⟨g7, 39, none⟩)) V (by kernel_rfl) ?_
        exact ⟨true, b1, b2, b3, b4, b5, b6, b7, b8, b9, rfl, rfl, hF⟩
       ·obtain rfl : b1 = false := ready_self hr
        obtain rfl : b0 = true := ready_dep hr 0 (by kernel_rfl)
        obtain rfl : b9 = false := by cases b9; rfl; exact absurd (hF.p rfl) (by decide)
        refine st_load rfl (by kernel_rfl) (some 39) rfl 3 (.tmp 38) rfl ⟨g7, 39, none⟩ (.int .i64 E.od) (by kernel_rfl) (rg_cell (bx_range (cs := enl E d) (hF.x rfl)) (j := 39) rfl (by kernel_rfl)) ?_
        exact ⟨true, true, b2, b3, b4, b5, b6, b7, b8, false, rfl, rfl, ⟨hF.a0, hF.a1, hF.bt, hF.x, hF.y, hF.o, fun _ => rfl⟩⟩
       ·obtain rfl : b2 = false := ready_self hr
        refine st_val rfl (by kernel_rfl) (some 40) rfl (.slice a9 j c9) V (by kernel_rfl) ?_
        exact ⟨b0, b1, true, b3, b4, b5, b6, b7, b8, b9, rfl, rfl, hF⟩
       ·obtain rfl : b3 = false := ready_self hr
        obtain rfl : b2 = true := ready_dep hr 2 (by kernel_rfl)
        refine st_val rfl (by kernel_rfl) (some 41) rfl (.int .i64 j) V (by kernel_rfl) ?_
        exact ⟨b0, b1, true, true, b4, b5, b6, b7, b8, b9, rfl, rfl, hF⟩
       ·obtain rfl : b4 = false := ready_self hr
        refine st_val rfl (by kernel_rfl) (some 42) rfl (.pointer (some ⟨g, 0, none⟩)) V (by kernel_rfl) ?_
        exact ⟨b0, b1, b2, b3, true, b5, b6, b7, b8, b9, rfl, rfl, hF⟩
       ·obtain rfl : b5 = false := ready_self hr
        obtain rfl : b4 = true := ready_dep hr 4 (by kernel_rfl)
        obtain rfl : b9 = false := by cases b9; rfl; exact absurd (hF.o rfl) (by decide)
        refine st_call rfl (by kernel_rfl) (some 43) rfl 15 #[.pointer (some ⟨g, 0, none⟩), .int .i64 2] (by kernel_rfl) ((HCQ.out V g c a (hF.a0 rfl)).mono ?_)
        rintro e9 V9 ⟨rfl, hn9, hb9⟩
        exact ⟨_, rfl, b0, b1, b2, b3, true, true, b6, b7, b8, false, rfl, rfl, ⟨fun h => (by cases h), fun _ => hn9, fun _ => (hF.bt rfl).trans hb9, fun _ => (hF.x rfl).but hb9 (by have := HG7.out.1; have := HL.out.2.2; omega), fun h => (by cases h), fun _ => rfl, hF.p⟩⟩
       ·obtain rfl : b6 = false := ready_self hr
        obtain rfl : b3 = true := ready_dep hr 3 (by kernel_rfl)
        obtain rfl : b5 = true := ready_dep hr 5 (by kernel_rfl)
        refine st_val rfl (by kernel_rfl) (some 44) rfl (.int .i64 ((j * q : Nat) : Int)) V (mul_nn rfl j q (by have := HMU.out; omega) (by kernel_rfl) (by kernel_rfl) V) ?_
        exact ⟨b0, b1, b2, true, b4, true, true, b7, b8, b9, rfl, rfl, hF⟩
       ·obtain rfl : b7 = false := ready_self hr
        obtain rfl : b1 = true := ready_dep hr 1 (by kernel_rfl)
        obtain rfl : b6 = true := ready_dep hr 6 (by kernel_rfl)
        refine st_val rfl (by kernel_rfl) (some 45) rfl (.int .i64 (E.od + (j * q : Nat))) V (add_i rfl E.od ((j * q : Nat) : Int) (by have := HMU.out; have := HE.out; omega) (by kernel_rfl) (by kernel_rfl) V) ?_
        exact ⟨b0, true, b2, b3, b4, b5, true, true, b8, b9, rfl, rfl, hF⟩
       ·obtain rfl : b8 = false := ready_self hr
        refine st_val rfl (by kernel_rfl) (some 46) rfl (.pointer (some ⟨g7, 39, none⟩)) V (by kernel_rfl) ?_
        exact ⟨b0, b1, b2, b3, b4, b5, b6, b7, true, b9, rfl, rfl, hF⟩
       ·obtain rfl : b9 = false := ready_self hr
        obtain rfl : b0 = true := ready_dep hr 0 (by kernel_rfl)
        obtain rfl : b1 = true := ready_dep hr 1 (by kernel_rfl)
        obtain rfl : b2 = true := ready_dep hr 2 (by kernel_rfl)
        obtain rfl : b3 = true := ready_dep hr 3 (by kernel_rfl)
        obtain rfl : b4 = true := ready_dep hr 4 (by kernel_rfl)
        obtain rfl : b5 = true := ready_dep hr 5 (by kernel_rfl)
        obtain rfl : b6 = true := ready_dep hr 6 (by kernel_rfl)
        obtain rfl : b7 = true := ready_dep hr 7 (by kernel_rfl)
        obtain rfl : b8 = true := ready_dep hr 8 (by kernel_rfl)
        obtain ⟨V9, hst9, hX9, hb9⟩ := st_fld (enA e2 d) (hF.x rfl) (i := 39) (v := .int .i64 (E.od + (j * q : Nat))) (ty := 3) (by simp [enA, en_len]) (by rw [← HE2.out]; kernel_rfl) rfl (by kernel_rfl)
        refine st_storeA rfl (by kernel_rfl) rfl 3 (.tmp 46) (.tmp 45) rfl (.pointer (some ⟨g7, 39, none⟩)) (.int .i64 (E.od + (j * q : Nat))) (by kernel_rfl) (by kernel_rfl) V9 hst9 ?_
        exact ⟨true, true, true, true, true, true, true, true, true, true, rfl, rfl, ⟨fun h => (by cases h), fun _ => (hF.a1 rfl).but hb9 (by have := HG7.out.1; have := HL.out.2.2; omega), fun h => (by cases h), fun h => (by cases h), fun _ => ⟨hX9, V, hF.bt rfl, hb9, hF.x rfl, hF.a1 rfl⟩, fun _ => rfl, fun _ => rfl⟩⟩
      ·intro act9 V hJ
       obtain ⟨b0, b1, b2, b3, b4, b5, b6, b7, b8, b9, he, rfl, hF⟩ := hJ
       have he : (#[true, true, true, true, true, true, true, true, true, true] : Array Bool) = #[b0, b1, b2, b3, b4, b5, b6, b7, b8, b9] := he
       simp only [Array.mk.injEq, List.cons.injEq, and_true] at he
       obtain ⟨rfl, rfl, rfl, rfl, rfl, rfl, rfl, rfl, rfl, rfl⟩ := he
       simp only [cond_true]
       obtain ⟨hX8, U, hb8, hb9, hX9, hn9⟩ := hF.y rfl
       have hs5 := (HS4.out.1.next hn9 hb8).set hb9 hX9 HG7.out.1 HG7.out.2
       have hew5 : EnW V w.heap.size E d := enw_but (HS4.out.2.butl hb8 HL.out.2.2) hX9 hb9
       have hew6 : EnW V w.heap.size e2 d := by rw [← HE2.out]; exact ⟨hew5.r, hew5.p⟩
       obtain ⟨v2, V3, hap, hs6⟩ := hs5.push (by have := HK.out; omega) e2 d hew6 (by rw [← HE2.out]; exact ⟨HE.out.1, HE.out.2.1, HE.out.2.2.1⟩)
       have HS6 := Lib.hid hs6
       have hbe := build_ee (e2, d) V
       obtain ⟨gB, hgB⟩ : ∃ q, V.heap.size = q := ⟨_, rfl⟩
       rw [HM.out.1, hgB] at hap
       rw [hgB] at hbe
       clear hF h0 hb8 hb9 hX9 hn9 hs5 hew5 hew6 hs6 hU0
       go_upto_region 14 with fail
       refine wl <| gz1 (.slice a9 j c9) <| gzl rfl ⟨g7, 0, none⟩ (.agg (enA e2 d)) (load_en (bx_range hX8)) ?_
       simp only [pu]
       refine gw_build (by kernel_rfl) (some 49) rfl 22 1 #[(0, .tmp 48)] rfl #[(0, .agg (enA e2 d))] (by kernel_rfl) (.slice (some ⟨gB, 0, none⟩) 1 1) _ (hbe) ?_
       simp only [pu]
       refine append_step rfl (some 50) rfl 22 rfl (.tmp 47) (.tmp 49) 22 rfl (.slice a9 j c9) (.slice (some ⟨gB, 0, none⟩) 1 1) v2 V3 (by kernel_rfl) (by kernel_rfl) hap ?_
       simp only [pu]
       refine gz1 (v2) <| wn ?_
       simp only [pu]
       clear hap hbe hX8 hgB
       go_upto_region 4 with fail
       refine wl <| gz1 (.int .i64 k) <| gzw (.int .i64 ((k - 1 : Nat) : Int)) (sub_nn rfl k 1 (by omega) (by have := HK.out; omega)) <| gz1 (.int .i64 ((k - 1 : Nat) : Int)) <| wn ?_
       simp only [pu]
       go_wp2_with fail
       go_roundg (k - 1)
       case measure => have := HGK.out; omega
       case rel => exact ⟨k - 1, N2 + 1, _, X ++ [(e2, d)], rfl, rfl, rfl, Lib.hid (by have := HK.out; have := HN2.out; rw [List.length_append, List.length_singleton]; omega), Lib.hid (HS6.out)⟩
  ·skip
   obtain rfl : k = 0 := by omega
   go_upto_region 3 with fail
   refine wl <| gz1 (.int .i64 (0 : Nat)) <| gzb (gtr_n rfl (((0 : Nat) : Int)) (0) dF) <| wn ?_
   simp only [pu]
   have HEE : Hid (EnS w wR g c a L N1 (.slice a9 X.length c9) X ∧ X.length ≤ 10 ∧ N1 ≤ N + 400) := Lib.hid ⟨HS.out, by have := HK.out; omega, by have := HK.out; omega⟩
   go_upto_region 15 with fail
   refine wl <| gz2 (.slice a9 m c9) (.slice a9 m c9) <| wn ?_
   simp only [pu]
   have hm9 := HM.out.1
   go_wp2_with fail
   go_ret
   exact ⟨a9, c9, X, N1, congrArg (fun q => Ending.returned (Value.slice a9 q c9)) hm9.symm, HEE.out⟩
end Go.Proofs.Ytgkckblcekbafaa
