/-
  Texts AD AA QF QH KD QJ joined.
-/
import Derived.Test.YtnhlpahoomcgnaaJ17
import Derived.Test.YtnhlpahoomcgnaaJ15
import Derived.Test.YtnhlpahoomcgnaaJ1
import Derived.Test.YtnhlpahoomcgnaaJ12
import Derived.Test.YtnhlpahoomcgnaaJ14
import Derived.Test.YtnhlpahoomcgnaaJ8
import Derived.Test.YtnhlpahoomcgnaaJ6
import Derived.Test.YtnhlpahoomcgnaaJ13
set_option maxRecDepth 100000
set_option maxHeartbeats 8000000
set_option linter.unusedSimpArgs false
set_option linter.unusedVariables false
namespace Go.Proofs.Ytnhlpahoomcgnaa.Lg
open Mo (Zd Zm YL YU)
open Go.RowKit
structure Ya where
 c : List Ac × Int
 k : List Ac × Int
 n : List Ac × Int
 o : Bool
 p : Int
structure Lo where
 a : Option Addr
 k : Nat
abbrev ZL (D : Ya) (l0 l1 l2 : Lo) : Array Value := #[.slice l0.a D.c.1.length l0.k, Z7 D.c.2, .slice l1.a D.k.1.length l1.k, Z7 D.k.2, .slice l2.a D.n.1.length l2.k, Z7 D.n.2, .bool D.o, Z7 D.p]
def Uw : Ya := ⟨([], 0), ([], 0), ([], 0), false, 0⟩
def Yb : Lo := ⟨none, 0⟩
def Me (X : List Ac) (p : Int) : Ya := ⟨(X, 0), (X, 0), ([], 0), false, p⟩
def JW (D : Ya) (R : List Int) : Ya := { D with k := (Vq D.k.1 D.k.2 D.p R).1 }
def GK (D : Ya) (R : List Int) : XZ := (Vq D.k.1 D.k.2 D.p R).2
def JM (D : Ya) (Ls : List (List Int)) : Ya := { D with n := Yu D.c.1 D.c.2 D.p Ls Ls.length, o := true }
def Ez (D : Ya) (Ls : List (List Int)) : List XZ := Ud D.c.1 D.c.2 D.p Ls Ls.length
def AV (D : Ya) : Ya := ⟨D.n, D.n, ([], 0), false, D.p⟩
def GI (D : Ya) : Ya := { D with k := D.c }
def XM (D : Ya) (Ls : List (List Int)) : Ya × List XZ × Int := if D.o = true then (Uw, [], 9) else if 512 < Ls.length then (Uw, [], 3) else (JM D Ls, Ez D Ls, 0)
def Ox (D : Ya) : Ya × Int := if D.o = true then (AV D, 0) else (Uw, 9)
def JV (D : Ya) (Ls : List (List Int)) : Bool := decide ((TF D.c.1 D.c.2 D.p Ls).2.2 = 0)
structure Uo (w : World) (l : Lo) (X : List Ac) : Prop where
 cs : Cs w l.a (acc X)
 le : X.length ≤ l.k
structure WA (w : World) (D : Ya) (l0 l1 l2 : Lo) : Prop where
 c : Uo w l0 D.c.1
 k : Uo w l1 D.k.1
 n : Uo w l2 D.n.1
structure WL (D : Ya) : Prop where
 c : QZ D.c.1 D.c.2
 k : QZ D.k.1 D.k.2
 n : QZ D.n.1 D.n.2
 p : W64 D.p
theorem QZ.nil : QZ [] 0 := ⟨by simp, X0, QG fun x hx => (by cases hx), fun x hx => by cases hx⟩
theorem WL.z : WL Uw := ⟨QZ.nil, QZ.nil, QZ.nil, X0⟩
theorem WL.ini {X : List Ac} {p : Int} (h : QZ X 0) (hp : W64 p) : WL (Me X p) := ⟨h, h, QZ.nil, hp⟩
theorem WL.acc {D : Ya} {R : List Int} (h : WL D) (h8 : ∀ y, y ∈ R → W8 y) : WL (JW D R) := ⟨h.c, h.k.tx h.p h8, h.n, h.p⟩
theorem WL.fin {D : Ya} {Ls : List (List Int)} (h : WL D) (h8 : ∀ L, L ∈ Ls → ∀ y, y ∈ L → W8 y) : WL (JM D Ls) := ⟨h.c, h.k, h.c.run h.p h8 _ (Nat.le_refl _), h.p⟩
theorem WL.com {D : Ya} (h : WL D) : WL (AV D) := ⟨h.n, h.n, QZ.nil, h.p⟩
theorem WL.rst {D : Ya} (h : WL D) : WL (GI D) := ⟨h.c, h.c, h.n, h.p⟩
theorem WL.XM {D : Ya} {Ls : List (List Int)} (h : WL D) (h8 : ∀ L, L ∈ Ls → ∀ y, y ∈ L → W8 y) : WL (XM D Ls).1 := by
 unfold Lg.XM
 split
 ·exact WL.z
 ·split
  ·exact WL.z
  ·exact h.fin h8
theorem Uo.below {w w' : World} {l : Lo} {X : List Ac} (h : Uo w l X) (hb : Below w.heap.size w w') : Uo w' l X := ⟨h.cs.below hb, h.le⟩
theorem WA.below {w w' : World} {D : Ya} {l0 l1 l2 : Lo} (h : WA w D l0 l1 l2) (hb : Below w.heap.size w w') : WA w' D l0 l1 l2 := ⟨h.c.below hb, h.k.below hb, h.n.below hb⟩
theorem Uo.nil (w : World) : Uo w Yb [] := ⟨Cs.nil _ _, Nat.le_refl _⟩
theorem WA.z (w : World) : WA w Uw Yb Yb Yb := ⟨Uo.nil w, Uo.nil w, Uo.nil w⟩
def fJ (g : Nat) (l : Lo) (X : List Ac) : Prop := acc X ≠ [] → ∀ x, l.a = some x → x.block ≠ g
structure ApN (g : Nat) (D : Ya) (l0 l1 l2 : Lo) : Prop where
 c : fJ g l0 D.c.1
 k : fJ g l1 D.k.1
 n : fJ g l2 D.n.1
theorem Uo.but {w w' : World} {g : Nat} {l : Lo} {X : List Ac} (h : Uo w l X) (hb : But g w w') (hn : fJ g l X) : Uo w' l X := ⟨WZ h.cs hb hn, h.le⟩
theorem WA.but {w w' : World} {g : Nat} {D : Ya} {l0 l1 l2 : Lo} (h : WA w D l0 l1 l2) (hb : But g w w') (hn : ApN g D l0 l1 l2) : WA w' D l0 l1 l2 := ⟨h.c.but hb hn.c, h.k.but hb hn.k, h.n.but hb hn.n⟩
def noS (cs : Array Value) : Bool := cs.toList.all fun v => match v with | .string _ => false | _ => true
theorem AU : ∀ {X : List Ac}, acc X ≠ [] → ∃ s, (acc X)[0]? = some (.string s)
 | [], h => absurd rfl h
 | x :: _, _ => ⟨x.1, rfl⟩
theorem Uo.box {w : World} {g t : Nat} {cs : Array Value} {l : Lo} {X : List Ac} (h : Uo w l X) (hx : Bx w g cs t) (hs : noS cs = true) : fJ g l X := fun hne x hx2 hg => by
 obtain ⟨s, h0⟩ := AU hne
 obtain ⟨b, off, e, -, hc⟩ := h.cs _ _ h0
 rw [hx2] at e
 cases e
 subst hg
 rw [cell_of_row w _ _ _ t (0, 0) hx] at hc
 have hm : Value.string s ∈ cs.toList := by
  rw [← Array.mem_def]
  exact Array.mem_of_getElem? hc
 have := List.all_eq_true.1 hs _ hm
 simp at this
theorem WA.box {w : World} {g t : Nat} {cs : Array Value} {D : Ya} {l0 l1 l2 : Lo} (h : WA w D l0 l1 l2) (hx : Bx w g cs t) (hs : noS cs = true) : ApN g D l0 l1 l2 := ⟨h.c.box hx hs, h.k.box hx hs, h.n.box hx hs⟩
theorem Uo.st {w w' : World} {g t : Nat} {cs : Array Value} {l : Lo} {X : List Ac} (h : Uo w l X) (hx : Bx w g cs t) (hs : noS cs = true) (hb : But g w w') : Uo w' l X := h.but hb (h.box hx hs)
theorem WA.st {w w' : World} {g t : Nat} {cs : Array Value} {D : Ya} {l0 l1 l2 : Lo} (h : WA w D l0 l1 l2) (hx : Bx w g cs t) (hs : noS cs = true) (hb : But g w w') : WA w' D l0 l1 l2 := h.but hb (h.box hx hs)
theorem OE (D : Ya) (l0 l1 l2 : Lo) : noS (ZL D l0 l1 l2) = true := rfl
def rX (w : World) (D' : Ya) (v : Value) (w' : World) : Prop := ∃ m0 m1 m2, v = .agg (ZL D' m0 m1 m2) ∧ WA w' D' m0 m1 m2 ∧ Below w.heap.size w w'
def lU (w : World) (D' : Ya) (e : Ending) (w' : World) : Prop := ∃ v, e = .returned v ∧ rX w D' v w'
theorem wz (D : Ya) (l0 l1 l2 : Lo) : (ZL D l0 l1 l2).all (·.oneCell') = true := by simp [Value.oneCell']
section
variable {w w0 : World} {g B : Nat} {D : Ya} {l0 l1 l2 : Lo}
theorem AQ (h : Bx w g (ZL D l0 l1 l2) 35) : (Instr.loadAt 33 (Z5 g 0)).run Try.prog w = .ok (.agg (ZU l0.a D.c.1.length l0.k D.c.2)) w :=
 run_loadAt_mid w g 0 33 [.slice l0.a D.c.1.length l0.k, Z7 D.c.2] _ (Bx.two h 0 _ _ rfl rfl) Try.underlying33 rfl (by kernel_rfl)
theorem wu (h : Bx w g (ZL D l0 l1 l2) 35) : (Instr.loadAt 33 (Z5 g 2)).run Try.prog w = .ok (.agg (ZU l1.a D.k.1.length l1.k D.k.2)) w :=
 run_loadAt_mid w g 2 33 [.slice l1.a D.k.1.length l1.k, Z7 D.k.2] _ (Bx.two h 2 _ _ rfl rfl) Try.underlying33 rfl (by kernel_rfl)
theorem wo (h : Bx w g (ZL D l0 l1 l2) 35) : (Instr.loadAt 33 (Z5 g 4)).run Try.prog w = .ok (.agg (ZU l2.a D.n.1.length l2.k D.n.2)) w :=
 run_loadAt_mid w g 4 33 [.slice l2.a D.n.1.length l2.k, Z7 D.n.2] _ (Bx.two h 4 _ _ rfl rfl) Try.underlying33 rfl (by kernel_rfl)
theorem Xx (h : Bx w g (ZL D l0 l1 l2) 35) : (Instr.loadAt 35 (Z5 g 0)).run Try.prog w = .ok (.agg (ZL D l0 l1 l2)) w :=
 run_loadAt_mid w g 0 35 (ZL D l0 l1 l2).toList _ (fun j v hv => by
  rw [cell_of_row w g _ _ _ (0, 0) h]
  simpa using hv) Try.underlying35 rfl (by kernel_rfl)
theorem P7 {cs : Array Value} (h : Bx w g cs 35) (hz : cs.size = 8) (hb : Below B w0 w) (hg : B ≤ g) : ∃ V2, (Instr.storeAt 35 (Z5 g 0) (.agg (ZL D l0 l1 l2))).run Try.prog w = .ok () V2 ∧ Bx V2 g (ZL D l0 l1 l2) 35 ∧ Below B w0 V2 ∧ But g w V2 :=
 ⟨_, YW h hz (wz _ _ _ _) (by kernel_rfl), h.set, ZT hb hg _, But.setRow _ _⟩
theorem VQ (V : World) (D : Ya) (l0 l1 l2 : Lo) : ∃ V2, (Instr.storeAt 35 (Z5 V.heap.size 0) (.agg (ZL D l0 l1 l2))).run Try.prog (V.alloc (.cells #[.slice none 0 0, Z7 0, .slice none 0 0, Z7 0, .slice none 0 0, Z7 0, ZY, Z7 0] 35)) = .ok () V2 ∧ Below V.heap.size V V2 ∧ Bx V2 V.heap.size (ZL D l0 l1 l2) 35 := by
 obtain ⟨V2, h1, h2, h3, -⟩ := P7 (D := D) (l0 := l0) (l1 := l1) (l2 := l2) (heap_alloc_last V _ : Bx (V.alloc (.cells #[.slice none 0 0, Z7 0, .slice none 0 0, Z7 0, .slice none 0 0, Z7 0, ZY, Z7 0] 35)) V.heap.size #[.slice none 0 0, Z7 0, .slice none 0 0, Z7 0, .slice none 0 0, Z7 0, ZY, Z7 0] 35) rfl ((Below.refl _ V).alloc (Nat.le_refl _) _) (Nat.le_refl _)
 exact ⟨V2, h1, h3, h2⟩
theorem I5 {cs cs' : Array Value} {i : Nat} {a : Option Addr} {n k : Nat} {c : Int} (h : Bx w g cs 35) (hz : cs.size = 8) (hi : i + 1 < 8) (hb : Below B w0 w) (hg : B ≤ g) (hc : (cs.setIfInBounds i (.slice a n k)).setIfInBounds (i + 1) (Z7 c) = cs') : ∃ V2, (Instr.storeAt 33 (Z5 g i) (.agg (ZU a n k c))).run Try.prog w = .ok () V2 ∧ Bx V2 g cs' 35 ∧ Below B w0 V2 ∧ But g w V2 := by
 have hst := run_storeAt_mid (P := Try.prog) w g i 33 (ZU a n k c) (fun j hj => by
  have hj4 : j < 2 := hj
  refine ⟨?_, frozen_of_row w g _ _ 35 h⟩
  rw [cell_of_row w g _ _ 35 (0, 0) h, Array.getElem?_eq_getElem (by rw [hz]; omega)]
  rfl) (by kernel_rfl) (by simp [Value.oneCell'])
 exact ⟨_, hst, hc ▸ (h.Dy (i := i) (.slice a n k)).Dy (i := i + 1) (Z7 c), hb.trans (VF hg _ _ _), Tt _ _ _⟩
theorem VW {i : Nat} {cs : Array Value} {b : Bool} (h : Bx w g cs 35) (hv : cs[i]? = some (.bool b)) : (Instr.loadAt 4 (Z5 g i)).run Try.prog w = .ok (.bool b) w := h.load hv (by kernel_rfl)
end
end Go.Proofs.Ytnhlpahoomcgnaa.Lg
namespace Go.Proofs.Ytnhlpahoomcgnaa.Lg
attribute [local irreducible] wpList wpQuiet
open Mo (Zd Zm YL YU)
open Go.RowKit
theorem mY : (Try.prog.info? 86).map (fun i => (i.zero, i.size, i.bytes)) = some (some (.pointer none), 1, 8) := by kernel_rfl
theorem zO (x y z : Option Addr) (V : World) : (Instr.buildSlice 87 3 #[(0, .pointer x), (1, .pointer y), (2, .pointer z)]).run Try.prog V = .ok (.slice (some ⟨V.heap.size, 0, none⟩) 3 3) (V.alloc (.cells #[.pointer x, .pointer y, .pointer z] 86)) := by
 obtain ⟨i0, hi, hz0, hz1, hz2⟩ := info_parts mY
 refine run_buildSlice V 87 86 3 _ #[.pointer x, .pointer y, .pointer z] i0 _ Try.underlying87 hi hz0 (by rw [hz1]; omega) (by rw [hz1]; omega) ?_
 rw [hz1]
 kernel_rfl
theorem IQ (b n c k : Nat) (hk : k < n) (V : World) (ρ : Operand → Value) (o : Oper) {x y : Operand} (ho : o.op = .indexAddr 87 x y) (hx : ρ x = .slice (some ⟨b, 0, none⟩) n c) (hy : ρ y = Z8 k) : (execOp ρ o).run Try.prog V = .ok (.value (Z5 b k)) V := by
 have hs : (sizeOf (Try.prog.elem 87)).run Try.prog V = .ok 1 V := by kernel_rfl
 have hlm : (k : Int) < (n : Int) := by omega
 unfold execOp
 simp only [ho, hx, hy]
 go_simp
abbrev MV (g : Nat) : Array Value := #[Z5 g 0, Z5 g 2, Z5 g 4]
structure KP (w W : World) (g1 g2 g8 : Nat) (D : Ya) (m0 m1 m2 : Lo) (V : World) : Prop where
 bel : Below w.heap.size w V
 wle : W.heap.size ≤ V.heap.size
 bx : Bx V g1 (ZL D m0 m1 m2) 35
 b2 : Bx V g2 #[.slice none 0 0, Z7 0, .slice none 0 0, Z7 0, .slice none 0 0, Z7 0, ZY, Z7 0] 35
 b8 : Bx V g8 (MV g1) 86
 ai : WA V D m0 m1 m2
theorem KP.up0 {w W V V1 : World} {g1 g2 g8 : Nat} {D : Ya} {m0 m1 m2 : Lo} (h : KP w W g1 g2 g8 D m0 m1 m2 V) (hG : w.heap.size ≤ g1 ∧ g2 ≠ g1 ∧ g8 ≠ g1) {m : Lo} (hr : ZB V1 V.heap.size (.slice m.a D.c.1.length m.k) D.c.1) (hb : Below V.heap.size V V1) : ∃ V2, (Instr.storeAt 22 (Z5 g1 0) (.slice m.a D.c.1.length m.k)).run Try.prog V1 = .ok () V2 ∧ KP w W g1 g2 g8 D m m1 m2 V2 := by
 obtain ⟨ad, cd, e, hc, hk⟩ := hr.cs
 obtain ⟨rfl, -, rfl⟩ := by simpa only [Value.slice.injEq] using e
 have hx1 := h.bx.below h.bx.lt hb
 obtain ⟨V2, hst, hx, hb2, hbt⟩ := Zb (i := 0) (ty := 22) (v := .slice m.a D.c.1.length m.k) (cs' := ZL D m m1 m2) hx1 (h.bel.trans (hb.mono h.bel.size)) hG.1 (by show 0 < 8; decide) rfl (by kernel_rfl) rfl
 have h9 := (h.ai.below hb).st hx1 (OE _ _ _ _) hbt
 exact ⟨V2, hst, hb2, Nat.le_trans h.wle (Nat.le_trans hb.size hbt.1.size), hx, (h.b2.below h.b2.lt hb).but hbt hG.2.1, (h.b8.below h.b8.lt hb).but hbt hG.2.2, ⟨(Uo.mk hc hk).st hx1 (OE _ _ _ _) hbt, h9.k, h9.n⟩⟩
theorem KP.up2 {w W V V1 : World} {g1 g2 g8 : Nat} {D : Ya} {m0 m1 m2 : Lo} (h : KP w W g1 g2 g8 D m0 m1 m2 V) (hG : w.heap.size ≤ g1 ∧ g2 ≠ g1 ∧ g8 ≠ g1) {m : Lo} (hr : ZB V1 V.heap.size (.slice m.a D.k.1.length m.k) D.k.1) (hb : Below V.heap.size V V1) : ∃ V2, (Instr.storeAt 22 (Z5 g1 2) (.slice m.a D.k.1.length m.k)).run Try.prog V1 = .ok () V2 ∧ KP w W g1 g2 g8 D m0 m m2 V2 := by
 obtain ⟨ad, cd, e, hc, hk⟩ := hr.cs
 obtain ⟨rfl, -, rfl⟩ := by simpa only [Value.slice.injEq] using e
 have hx1 := h.bx.below h.bx.lt hb
 obtain ⟨V2, hst, hx, hb2, hbt⟩ := Zb (i := 2) (ty := 22) (v := .slice m.a D.k.1.length m.k) (cs' := ZL D m0 m m2) hx1 (h.bel.trans (hb.mono h.bel.size)) hG.1 (by show 2 < 8; decide) rfl (by kernel_rfl) rfl
 have h9 := (h.ai.below hb).st hx1 (OE _ _ _ _) hbt
 exact ⟨V2, hst, hb2, Nat.le_trans h.wle (Nat.le_trans hb.size hbt.1.size), hx, (h.b2.below h.b2.lt hb).but hbt hG.2.1, (h.b8.below h.b8.lt hb).but hbt hG.2.2, ⟨h9.c, (Uo.mk hc hk).st hx1 (OE _ _ _ _) hbt, h9.n⟩⟩
theorem KP.up4 {w W V V1 : World} {g1 g2 g8 : Nat} {D : Ya} {m0 m1 m2 : Lo} (h : KP w W g1 g2 g8 D m0 m1 m2 V) (hG : w.heap.size ≤ g1 ∧ g2 ≠ g1 ∧ g8 ≠ g1) {m : Lo} (hr : ZB V1 V.heap.size (.slice m.a D.n.1.length m.k) D.n.1) (hb : Below V.heap.size V V1) : ∃ V2, (Instr.storeAt 22 (Z5 g1 4) (.slice m.a D.n.1.length m.k)).run Try.prog V1 = .ok () V2 ∧ KP w W g1 g2 g8 D m0 m1 m V2 := by
 obtain ⟨ad, cd, e, hc, hk⟩ := hr.cs
 obtain ⟨rfl, -, rfl⟩ := by simpa only [Value.slice.injEq] using e
 have hx1 := h.bx.below h.bx.lt hb
 obtain ⟨V2, hst, hx, hb2, hbt⟩ := Zb (i := 4) (ty := 22) (v := .slice m.a D.n.1.length m.k) (cs' := ZL D m0 m1 m) hx1 (h.bel.trans (hb.mono h.bel.size)) hG.1 (by show 4 < 8; decide) rfl (by kernel_rfl) rfl
 have h9 := (h.ai.below hb).st hx1 (OE _ _ _ _) hbt
 exact ⟨V2, hst, hb2, Nat.le_trans h.wle (Nat.le_trans hb.size hbt.1.size), hx, (h.b2.below h.b2.lt hb).but hbt hG.2.1, (h.b8.below h.b8.lt hb).but hbt hG.2.2, ⟨h9.c, h9.k, (Uo.mk hc hk).st hx1 (OE _ _ _ _) hbt⟩⟩
theorem SH (D : Ya) (l0 l1 l2 : Lo) (w : World) (hI : WA w D l0 l1 l2) (hW : WL D) :
  Calls Try.prog 23 #[.agg (ZL D l0 l1 l2)] w (lU w D) := by
 obtain ⟨hb0, hX1, hX2⟩ := Zi w (ZL D l0 l1 l2) #[.slice none 0 0, Z7 0, .slice none 0 0, Z7 0, .slice none 0 0, Z7 0, ZY, Z7 0] 35 35
 have hI0 := hI.below hb0
 have CC0 := fun V m (h : Uo V m D.c.1) => UO m.a m.k D.c.1 V h.cs hW.c.n
 have CC1 := fun V m (h : Uo V m D.k.1) => UO m.a m.k D.k.1 V h.cs hW.k.n
 have CC2 := fun V m (h : Uo V m D.n.1) => UO m.a m.k D.n.1 V h.cs hW.n.n
 clear hI hW
 go_enter Try.func23, Try.ntmps23
 go_upto_region 1 with fail
 change Code.wp _ _ _ _ ((w.alloc (.cells (ZL D l0 l1 l2) 35)).alloc (.cells #[.slice none 0 0, Z7 0, .slice none 0 0, Z7 0, .slice none 0 0, Z7 0, ZY, Z7 0] 35))
 generalize (w.alloc (.cells (ZL D l0 l1 l2) 35)).alloc (.cells #[.slice none 0 0, Z7 0, .slice none 0 0, Z7 0, .slice none 0 0, Z7 0, ZY, Z7 0] 35) = W0 at *
 obtain ⟨g1, hg1⟩ := ZR w.heap.size
 obtain ⟨g2, hg2⟩ := ZR (g1 + 1)
 rw [show w.heap.size + 1 = g2 by omega] at hX2
 rw [hg1] at hX1
 have hb8 : Below W0.heap.size W0 (W0.alloc (.cells (MV g1) 86)) := (Below.refl _ W0).alloc (Nat.le_refl _) _
 have RD : Bx (W0.alloc (.cells (MV g1) 86)) W0.heap.size (MV g1) 86 := heap_alloc_last W0 _
 have hbu := zO (some ⟨g1, 0, none⟩) (some ⟨g1, 2, none⟩) (some ⟨g1, 4, none⟩) W0
 obtain ⟨W, hW⟩ := ZR (W0.alloc (.cells (MV g1) 86))
 rw [hW] at hb8 RD
 change (_ = Result.ok _ (W0.alloc (.cells (MV g1) 86))) at hbu
 rw [hW] at hbu
 obtain ⟨g8, J3⟩ := ZR W0.heap.size
 have HG : Hid (w.heap.size ≤ g1 ∧ g2 ≠ g1 ∧ g8 ≠ g1) := Z9 ⟨by omega, by omega, by have := hX1.lt; omega⟩
 rw [J3] at RD hbu
 have HG2 : Hid (w.heap.size ≤ g2) := Z9 (by omega)
 simp only [hg1]
 simp only [hg2]
 have HK0 : Hid (KP w W g1 g2 g8 D l0 l1 l2 W) := Z9 ⟨hb0.trans (hb8.mono hb0.size), Nat.le_refl _, hX1.below hX1.lt hb8, hX2.below hX2.lt hb8, RD, hI0.below hb8⟩
 clear hb0 hX1 hX2 hI0 hb8 RD hW hg1 hg2 J3
 refine wl <| YT (Z5 g1 0) (Z5 g1 2) (Z5 g1 4) ?_
 simp only [pu]
 refine Zh (by kernel_rfl) (some 8) rfl 87 3 #[(0, .tmp 5), (1, .tmp 6), (2, .tmp 7)] rfl #[(0, Z5 g1 0), (1, Z5 g1 2), (2, Z5 g1 4)] (by kernel_rfl) (.slice (some ⟨g8, 0, none⟩) 3 3) _ hbu ?_
 simp only [pu]
 refine ZG (Z8 3) (Z8 0) <| wn ?_
 simp only [pu]
 clear hbu
 go_wp2_with fail
 go_loopg [10] 3 (fun gg s10 wx => ∃ (i : Nat) (m0 m1 m2 : Lo), s10 = Z8 i ∧ i ≤ 3 ∧ Hid (KP w W g1 g2 g8 D m0 m1 m2 wx) ∧ 3 - i = gg)
 case atStart => exact ⟨0, l0, l1, l2, rfl, by omega, HK0, by omega⟩
 case round =>
  obtain ⟨i, m0, m1, m2, rfl, hi, HK, hg⟩ := hrel
  clear HK0
  have HGI := Z9 hg
  clear hg
  by_cases hlt : i < 3
  ·go_upto_region 2 with fail
   refine wl <| ZM (ZC rfl (i) (3) dT) <| wn ?_
   simp only [pu]
   rcases (show i = 0 ∨ i = 1 ∨ i = 2 by omega) with hi0 | hi0 | hi0
   ·have hcl : (MV g1)[i]? = some (Z5 g1 0) := by rw [hi0]; rfl
    have Y0 := Z9 ((HK.out.b8.load hcl (by kernel_rfl) : (Instr.loadAt 86 (Z5 g8 i)).run Try.prog wr = .ok (Z5 g1 0) wr))
    have CT := CC0 wr m0 HK.out.ai.c
    have HI0 := Z9 hi0
    clear hcl hi0
    go_upto_region 3 with fail
    refine wl <| YO (Z5 g8 i) (IQ g8 3 3 i hlt _ _ _ rfl (by kernel_rfl) (by kernel_rfl)) <| ZI rfl ⟨g8, i, none⟩ (Z5 g1 0) (Y0.out) <| ZV (Z5 g1 0) <| wn ?_
    simp only [pu]
    go_upto_region 4 with fail
    refine wl <| Xl (Z5 g1 0) (Z5 g1 0) (Z5 g1 0) (Z5 g1 0) <| ZI rfl ⟨g1, 0, none⟩ (.slice m0.a D.c.1.length m0.k) (HK.out.bx.ZN 0) <|
     Yl (fun v w' => ∃ ad cd, v = .slice ad D.c.1.length cd ∧ ZB w' wr.heap.size (.slice ad D.c.1.length cd) D.c.1 ∧ Below wr.heap.size wr w') (CT.mono fun e w' q => by obtain ⟨v, h1, h2, h3⟩ := q; obtain ⟨ad, cd, rfl, -, -⟩ := h2.cs; exact ⟨_, h1, ad, cd, rfl, h2, h3⟩) (fun vv V1 hq => ?_)
    obtain ⟨ad, cd, rfl, hr, hb⟩ := hq
    obtain ⟨V2, hst, hK2⟩ := HK.out.up0 HG.out (m := ⟨ad, cd⟩) hr hb
    have PK := Z9 hK2
    clear hr hb hK2
    simp only [pu]
    refine ZG (Z5 g1 0) (Z5 g1 0) <| Zt rfl (hst) <| wn ?_
    simp only [pu]
    clear hst CT Y0
    go_upto_region 5 with fail
    refine wl <| YN (Z8 (i + 1 : Nat)) (ZK rfl i 1 (by omega)) <| ZV (Z8 (i + 1 : Nat)) <| wn ?_
    simp only [pu]
    go_wp2_with fail
    go_roundg (3 - (i + 1))
    case measure => have := HGI.out; omega
    case rel => exact ⟨i + 1, ⟨ad, cd⟩, m1, m2, rfl, hlt, PK, rfl⟩
   ·have hcl : (MV g1)[i]? = some (Z5 g1 2) := by rw [hi0]; rfl
    have Y0 := Z9 ((HK.out.b8.load hcl (by kernel_rfl) : (Instr.loadAt 86 (Z5 g8 i)).run Try.prog wr = .ok (Z5 g1 2) wr))
    have CT := CC1 wr m1 HK.out.ai.k
    have HI0 := Z9 hi0
    clear hcl hi0
    go_upto_region 3 with fail
    refine wl <| YO (Z5 g8 i) (IQ g8 3 3 i hlt _ _ _ rfl (by kernel_rfl) (by kernel_rfl)) <| ZI rfl ⟨g8, i, none⟩ (Z5 g1 2) (Y0.out) <| ZV (Z5 g1 2) <| wn ?_
    simp only [pu]
    go_upto_region 4 with fail
    refine wl <| Xl (Z5 g1 2) (Z5 g1 2) (Z5 g1 2) (Z5 g1 2) <| ZI rfl ⟨g1, 2, none⟩ (.slice m1.a D.k.1.length m1.k) (HK.out.bx.ZN 2) <|
     Yl (fun v w' => ∃ ad cd, v = .slice ad D.k.1.length cd ∧ ZB w' wr.heap.size (.slice ad D.k.1.length cd) D.k.1 ∧ Below wr.heap.size wr w') (CT.mono fun e w' q => by obtain ⟨v, h1, h2, h3⟩ := q; obtain ⟨ad, cd, rfl, -, -⟩ := h2.cs; exact ⟨_, h1, ad, cd, rfl, h2, h3⟩) (fun vv V1 hq => ?_)
    obtain ⟨ad, cd, rfl, hr, hb⟩ := hq
    obtain ⟨V2, hst, hK2⟩ := HK.out.up2 HG.out (m := ⟨ad, cd⟩) hr hb
    have PK := Z9 hK2
    clear hr hb hK2
    simp only [pu]
    refine ZG (Z5 g1 2) (Z5 g1 2) <| Zt rfl (hst) <| wn ?_
    simp only [pu]
    clear hst CT Y0
    go_upto_region 5 with fail
    refine wl <| YN (Z8 (i + 1 : Nat)) (ZK rfl i 1 (by omega)) <| ZV (Z8 (i + 1 : Nat)) <| wn ?_
    simp only [pu]
    go_wp2_with fail
    go_roundg (3 - (i + 1))
    case measure => have := HGI.out; omega
    case rel => exact ⟨i + 1, m0, ⟨ad, cd⟩, m2, rfl, hlt, PK, rfl⟩
   ·have hcl : (MV g1)[i]? = some (Z5 g1 4) := by rw [hi0]; rfl
    have Y0 := Z9 ((HK.out.b8.load hcl (by kernel_rfl) : (Instr.loadAt 86 (Z5 g8 i)).run Try.prog wr = .ok (Z5 g1 4) wr))
    have CT := CC2 wr m2 HK.out.ai.n
    have HI0 := Z9 hi0
    clear hcl hi0
    go_upto_region 3 with fail
    refine wl <| YO (Z5 g8 i) (IQ g8 3 3 i hlt _ _ _ rfl (by kernel_rfl) (by kernel_rfl)) <| ZI rfl ⟨g8, i, none⟩ (Z5 g1 4) (Y0.out) <| ZV (Z5 g1 4) <| wn ?_
    simp only [pu]
    go_upto_region 4 with fail
    refine wl <| Xl (Z5 g1 4) (Z5 g1 4) (Z5 g1 4) (Z5 g1 4) <| ZI rfl ⟨g1, 4, none⟩ (.slice m2.a D.n.1.length m2.k) (HK.out.bx.ZN 4) <|
     Yl (fun v w' => ∃ ad cd, v = .slice ad D.n.1.length cd ∧ ZB w' wr.heap.size (.slice ad D.n.1.length cd) D.n.1 ∧ Below wr.heap.size wr w') (CT.mono fun e w' q => by obtain ⟨v, h1, h2, h3⟩ := q; obtain ⟨ad, cd, rfl, -, -⟩ := h2.cs; exact ⟨_, h1, ad, cd, rfl, h2, h3⟩) (fun vv V1 hq => ?_)
    obtain ⟨ad, cd, rfl, hr, hb⟩ := hq
    obtain ⟨V2, hst, hK2⟩ := HK.out.up4 HG.out (m := ⟨ad, cd⟩) hr hb
    have PK := Z9 hK2
    clear hr hb hK2
    simp only [pu]
    refine ZG (Z5 g1 4) (Z5 g1 4) <| Zt rfl (hst) <| wn ?_
    simp only [pu]
    clear hst CT Y0
    go_upto_region 5 with fail
    refine wl <| YN (Z8 (i + 1 : Nat)) (ZK rfl i 1 (by omega)) <| ZV (Z8 (i + 1 : Nat)) <| wn ?_
    simp only [pu]
    go_wp2_with fail
    go_roundg (3 - (i + 1))
    case measure => have := HGI.out; omega
    case rel => exact ⟨i + 1, m0, m1, ⟨ad, cd⟩, rfl, hlt, PK, rfl⟩
  ·go_upto_region 2 with fail
   refine wl <| ZM (ZC rfl (i) (3) dF) <| wn ?_
   simp only [pu]
   obtain ⟨V3, hst3, JR, hb3, Sj⟩ := P7 (D := D) (l0 := m0) (l1 := m1) (l2 := m2) HK.out.b2 rfl HK.out.bel HG2.out
   have HE : Hid (lU w D (.returned (.agg (ZL D m0 m1 m2))) V3) := Z9 ⟨_, rfl, m0, m1, m2, rfl, HK.out.ai.st HK.out.b2 rfl Sj, hb3⟩
   clear hb3 Sj
   go_upto_region 6 with fail
   refine wl <| ZI rfl ⟨g1, 0, none⟩ (.agg (ZL D m0 m1 m2)) (Xx HK.out.bx) <| Zt rfl (hst3) <| wn ?_
   simp only [pu]
   go_wp2_with fail
   exact bodyPost_ret (XJ rfl (by kernel_rfl) (Xx JR)) rfl HE.out
theorem IK (D : Ya) (l0 l1 l2 : Lo) (R : List Int) (ra : Option Addr) (rc : Nat) (w : World) (hI : WA w D l0 l1 l2) (hW : WL D) (hR : Sl w ra rc R) (hrc : R.length ≤ rc) (h8 : ∀ y, y ∈ R → W8 y) :
  Calls Try.prog 18 #[.agg (ZL D l0 l1 l2), .slice ra R.length rc] w (fun e w' => e = .returned (.agg (ZE (GK D R))) ∧ Below w.heap.size w w') := by
 obtain ⟨hb0, hX2, Xk⟩ := Zi w (ZL D l0 l1 l2) (ZE (YG 0)) 35 61
 have hR0 := ZH hR hb0
 have CT := fun V hl hr => vW D.k.1 D.k.2 D.p R l1.a ra l1.k rc V hl hI.k.le hW.k.n hW.k.cw hW.k.w hW.k.z hW.p hr hrc h8
 have JA : Hid (GK D R = (Vq D.k.1 D.k.2 D.p R).2) := Z9 rfl
 generalize Vq D.k.1 D.k.2 D.p R = X at *
 rw [JA.out]
 clear hR h8 hrc JA
 go_enter Try.func18, Try.ntmps18
 go_upto_region 1 with fail
 change Code.wp _ _ _ _ ((w.alloc (.cells (ZL D l0 l1 l2) 35)).alloc (.cells (ZE (YG 0)) 61))
 generalize (w.alloc (.cells (ZL D l0 l1 l2) 35)).alloc (.cells (ZE (YG 0)) 61) = W at *
 obtain ⟨g2, hg2⟩ := ZR w.heap.size
 obtain ⟨g4, hg4⟩ := ZR (g2 + 1)
 have HB0 := Z9 hb0
 rw [show w.heap.size + 1 = g4 by omega] at Xk
 have HG : Hid (w.heap.size ≤ g2 ∧ w.heap.size ≤ g4 ∧ g2 ≠ g4 ∧ g4 ≠ g2) := Z9 (by omega)
 rw [hg2] at hX2
 simp only [hg2]
 simp only [hg4]
 have Yr := Z9 hX2
 have YK := Z9 Xk
 have HI := Z9 (hI.below hb0)
 clear hb0 hg2 hg4 hX2 Xk hI
 have zS := CT W HI.out.k.cs hR0
 clear CT hR0 hW
 refine wl <| ZV (Z5 g2 2) <| ZI rfl ⟨g2, 2, none⟩ (.agg (ZU l1.a D.k.1.length l1.k D.k.2)) (wu Yr.out) <| ZV (Z5 g2 7) <| ZI rfl ⟨g2, 7, none⟩ (Z7 D.p) (Yr.out.ZN 7) <| ZV (.slice ra R.length rc) <|
  Yl (fun v w' => ∃ aZ kZ, v = .tuple #[.agg (ZU aZ X.1.1.length kZ X.1.2), .agg (ZE X.2)] ∧ Cs w' aZ (acc X.1.1) ∧ X.1.1.length ≤ kZ ∧ ((aZ = l1.a ∧ X.1.1 = D.k.1) ∨ ∀ x, aZ = some x → W.heap.size ≤ x.block) ∧ Below W.heap.size W w') (zS.mono fun e w' q => by obtain ⟨ad, k, h1, h2⟩ := q; exact ⟨_, h1, ad, k, rfl, h2⟩) (fun vv W1 hq => ?_)
 obtain ⟨ad, k, rfl, hcs, hk, -, hb1⟩ := hq
 obtain ⟨Va, Vb, Vc, uM, hlt, hs6, hs7, hb7, hx4, hx5⟩ := oh W1 ad X.1.1.length k X.1.2 X.2
 simp only [pu]
 refine YT (.tuple #[.agg (ZU ad X.1.1.length k X.1.2), .agg (ZE X.2)]) (.agg (ZU ad X.1.1.length k X.1.2)) (.agg (ZE X.2)) ?_
 simp only [pu]
 refine Zz rfl (some 5) rfl (Z5 W1.heap.size 0) (W1.alloc (.cells (ZU none 0 0 0) 33)) (by kernel_rfl) ?_
 simp only [pu]
 rw [uM]
 refine Zz rfl (some 6) rfl (Z5 Va.heap.size 0) (Va.alloc (.cells (ZE (YG 0)) 61)) (by kernel_rfl) ?_
 simp only [pu]
 refine Zt rfl (hs6) <| Zt rfl (hs7) <| wn ?_
 have IZ := hb1.trans (hb7.mono hb1.size)
 obtain ⟨YJ, Ue⟩ := XF (q := X.2) (YK.out.below YK.out.lt IZ)
 have HE : Hid (Below w.heap.size w (Vc.setRow g4 (ZE X.2))) := Z9 (ZT (HB0.out.trans (IZ.mono HB0.out.size)) HG.out.2.1 _)
 obtain ⟨g6, Vk⟩ := ZR Va.heap.size
 rw [Vk] at hx5 ⊢
 generalize Vc.setRow g4 (ZE X.2) = V9 at *
 clear hcs hb1 uM hs6 hs7 hb7 hx4 IZ Vk zS
 go_upto_region 2 with fail
 refine wl <| ZI rfl ⟨g6, 0, none⟩ (.agg (ZE X.2)) (Xq hx5) <| Zt rfl (YJ) <| wn ?_
 simp only [pu]
 go_wp2_with fail
 exact bodyPost_ret (XJ rfl (by kernel_rfl) (Xq Ue)) rfl ⟨rfl, HE.out⟩
theorem EG (D : Ya) (l0 l1 l2 : Lo) (R : List Int) (ra : Option Addr) (rc : Nat) (w : World) (hI : WA w D l0 l1 l2) (hW : WL D) (hR : Sl w ra rc R) (hrc : R.length ≤ rc) (h8 : ∀ y, y ∈ R → W8 y) :
  Calls Try.prog 16 #[.agg (ZL D l0 l1 l2), .slice ra R.length rc] w (lU w (JW D R)) := by
 obtain ⟨hb0, hX2, Xk⟩ := Zi w (ZL D l0 l1 l2) #[.slice none 0 0, Z7 0, .slice none 0 0, Z7 0, .slice none 0 0, Z7 0, ZY, Z7 0] 35 35
 have hR0 := ZH hR hb0
 have CT := fun V hl hr => vW D.k.1 D.k.2 D.p R l1.a ra l1.k rc V hl hI.k.le hW.k.n hW.k.cw hW.k.w hW.k.z hW.p hr hrc h8
 have HA := Z9 (hW.acc h8)
 have JA : Hid ({ D with k := (Vq D.k.1 D.k.2 D.p R).1 } = JW D R) := Z9 rfl
 generalize JW D R = D2 at *
 generalize Vq D.k.1 D.k.2 D.p R = X at *
 clear hR h8 hrc
 go_enter Try.func16, Try.ntmps16
 go_upto_region 1 with fail
 change Code.wp _ _ _ _ ((w.alloc (.cells (ZL D l0 l1 l2) 35)).alloc (.cells #[.slice none 0 0, Z7 0, .slice none 0 0, Z7 0, .slice none 0 0, Z7 0, ZY, Z7 0] 35))
 generalize (w.alloc (.cells (ZL D l0 l1 l2) 35)).alloc (.cells #[.slice none 0 0, Z7 0, .slice none 0 0, Z7 0, .slice none 0 0, Z7 0, ZY, Z7 0] 35) = W at *
 obtain ⟨g2, hg2⟩ := ZR w.heap.size
 obtain ⟨g4, hg4⟩ := ZR (g2 + 1)
 have HB0 := Z9 hb0
 rw [show w.heap.size + 1 = g4 by omega] at Xk
 have HG : Hid (w.heap.size ≤ g2 ∧ w.heap.size ≤ g4 ∧ g2 ≠ g4 ∧ g4 ≠ g2) := Z9 (by omega)
 rw [hg2] at hX2
 simp only [hg2]
 simp only [hg4]
 have Yr := Z9 hX2
 have YK := Z9 Xk
 have HI := Z9 (hI.below hb0)
 clear hb0 hg2 hg4 hX2 Xk hI
 have zS := CT W HI.out.k.cs hR0
 clear CT hR0 hW
 refine wl <| ZV (Z5 g2 2) <| ZI rfl ⟨g2, 2, none⟩ (.agg (ZU l1.a D.k.1.length l1.k D.k.2)) (wu Yr.out) <| ZV (Z5 g2 7) <| ZI rfl ⟨g2, 7, none⟩ (Z7 D.p) (Yr.out.ZN 7) <| ZV (.slice ra R.length rc) <|
  Yl (fun v w' => ∃ aZ kZ, v = .tuple #[.agg (ZU aZ X.1.1.length kZ X.1.2), .agg (ZE X.2)] ∧ Cs w' aZ (acc X.1.1) ∧ X.1.1.length ≤ kZ ∧ ((aZ = l1.a ∧ X.1.1 = D.k.1) ∨ ∀ x, aZ = some x → W.heap.size ≤ x.block) ∧ Below W.heap.size W w') (zS.mono fun e w' q => by obtain ⟨ad, k, h1, h2⟩ := q; exact ⟨_, h1, ad, k, rfl, h2⟩) (fun vv W1 hq => ?_)
 obtain ⟨ad, k, rfl, hcs, hk, -, hb1⟩ := hq
 obtain ⟨V2, hst2, hY2, hb2, Vu⟩ := I5 (i := 2) (a := ad) (n := X.1.1.length) (k := k) (c := X.1.2) (cs' := ZL { D with k := X.1 } l0 ⟨ad, k⟩ l2) (Yr.out.below Yr.out.lt hb1) rfl (by decide) (HB0.out.trans (hb1.mono HB0.out.size)) HG.out.1 rfl
 have h2 := (HI.out.below hb1).st (Yr.out.below Yr.out.lt hb1) rfl Vu
 have hI2 : WA V2 { D with k := X.1 } l0 ⟨ad, k⟩ l2 := ⟨h2.c, (Uo.mk (l := ⟨ad, k⟩) hcs hk).st (Yr.out.below Yr.out.lt hb1) rfl Vu, h2.n⟩
 have Kq := (YK.out.below YK.out.lt hb1).but Vu HG.out.2.2.2
 simp only [pu]
 refine Xl (.tuple #[.agg (ZU ad X.1.1.length k X.1.2), .agg (ZE X.2)]) (.agg (ZU ad X.1.1.length k X.1.2)) (.agg (ZE X.2)) (Z5 g2 2) <| Zt rfl (hst2) <| wn ?_
 simp only [pu]
 obtain ⟨l3, hl3⟩ := ZR (Lo.mk ad k)
 rw [JA.out, hl3] at hI2 hY2
 clear hst2 hcs hk hb1 Vu h2 hl3 zS HI Yr
 go_upto_region 2 with fail
 refine wl <| ZI rfl ⟨g2, 0, none⟩ (.agg (ZL D2 l0 l3 l2)) (Xx hY2) <| Yl (rX V2 D2) (SH D2 l0 l3 l2 V2 hI2 HA.out) (fun vv W3 hq => ?_)
 obtain ⟨m0, m1, m2, rfl, zF, hbp⟩ := hq
 have hx4 := Bx.below Kq (Bx.lt Kq) hbp
 obtain ⟨V9, YJ, Ue, WJ, YA⟩ := P7 (D := D2) (l0 := m0) (l1 := m1) (l2 := m2) hx4 rfl (hb2.trans (hbp.mono hb2.size)) HG.out.2.1
 have HE : Hid (lU w D2 (.returned (.agg (ZL D2 m0 m1 m2))) V9) := Z9 ⟨_, rfl, m0, m1, m2, rfl, zF.st hx4 rfl YA, WJ⟩
 simp only [pu]
 refine Zt rfl (YJ) <| wn ?_
 go_wp2_with fail
 exact bodyPost_ret (XJ rfl (by kernel_rfl) (Xx Ue)) rfl HE.out
theorem GH (D : Ya) (l0 l1 l2 : Lo) (E : List Bs) (ra : Option Addr) (rc : Nat) (w : World) (hI : WA w D l0 l1 l2) (hW : WL D) (hE : MG w ra E) (hn : E.length ≤ 100000) :
  Calls Try.prog 19 #[.agg (ZL D l0 l1 l2), .slice ra E.length rc] w (fun e w' => e = .returned (.bool (JV D (lsB E))) ∧ Below w.heap.size w w') := by
 have hb0 : Below w.heap.size w (w.alloc (.cells (ZL D l0 l1 l2) 35)) := (Below.refl _ w).alloc (Nat.le_refl _) _
 have hX2 : Bx (w.alloc (.cells (ZL D l0 l1 l2) 35)) w.heap.size (ZL D l0 l1 l2) 35 := heap_alloc_last w _
 have CT := fun V hl he => AP D.c.1 D.c.2 D.p E l0.a ra l0.k rc V hl hI.c.le hW.c hW.p he hn
 have hE0 := hE.below hb0
 have JA : Hid (decide ((TF D.c.1 D.c.2 D.p (lsB E)).2.2 = 0) = JV D (lsB E)) := Z9 rfl
 generalize JV D (lsB E) = t9 at *
 generalize TF D.c.1 D.c.2 D.p (lsB E) = X at *
 clear hE hn
 go_enter Try.func19, Try.ntmps19
 go_upto_region 1 with fail
 change Code.wp _ _ _ _ (w.alloc (.cells (ZL D l0 l1 l2) 35))
 generalize w.alloc (.cells (ZL D l0 l1 l2) 35) = W at *
 obtain ⟨g2, hg2⟩ := ZR w.heap.size
 have HB0 := Z9 hb0
 have HG : Hid (w.heap.size ≤ g2) := Z9 (by omega)
 rw [hg2] at hX2
 simp only [hg2]
 have Yr := Z9 hX2
 have HI := Z9 (hI.below hb0)
 clear hb0 hg2 hX2 hI
 have zS := CT W HI.out.c.cs hE0
 clear CT hE0 hW
 refine wl <| ZV (Z5 g2 0) <| ZI rfl ⟨g2, 0, none⟩ (.agg (ZU l0.a D.c.1.length l0.k D.c.2)) (AQ Yr.out) <| ZV (Z5 g2 7) <| ZI rfl ⟨g2, 7, none⟩ (Z7 D.p) (Yr.out.ZN 7) <| ZV (.slice ra E.length rc) <|
  Yl (fun v w' => ∃ ad k, v = .tuple #[.agg (ZU ad X.1.1.length k X.1.2), Z8 X.2.1, Z8 X.2.2] ∧ Below W.heap.size W w') (zS.mono fun e w' q => by obtain ⟨ad, k, h1, h2, h3, h4⟩ := q; exact ⟨_, h1, ad, k, rfl, h4⟩) (fun vv W1 hq => ?_)
 obtain ⟨ad, k, rfl, hb1⟩ := hq
 obtain ⟨V2, hst2, hb2, hx2⟩ := VE W1 ad X.1.1.length k X.1.2
 simp only [pu]
 refine Xl (.tuple #[.agg (ZU ad X.1.1.length k X.1.2), Z8 X.2.1, Z8 X.2.2]) (.agg (ZU ad X.1.1.length k X.1.2)) (Z8 X.2.1) (Z8 X.2.2) ?_
 simp only [pu]
 refine Zz rfl (some 5) rfl (Z5 W1.heap.size 0) (W1.alloc (.cells (ZU none 0 0 0) 33)) (by kernel_rfl) ?_
 simp only [pu]
 refine Zt rfl (hst2) <| ZG (Z8 X.2.1) (Z8 X.2.2) <| wn ?_
 simp only [pu]
 have HE : Hid (Below w.heap.size w V2) := Z9 ((HB0.out.trans (hb1.mono HB0.out.size)).trans (hb2.mono (HB0.out.trans (hb1.mono HB0.out.size)).size))
 obtain ⟨g5, hg5⟩ := ZR W1.heap.size
 rw [hg5]
 have ht9 := JA.out
 clear hst2 hb1 hb2 hx2 hg5 zS HI Yr
 go_upto_region 2 with fail
 refine wl <| ZV (Z8 X.2.2) <| YN (.bool t9) (TG rfl X.2.2 0 ht9) <| ZV (.bool t9) <| wn ?_
 simp only [pu]
 go_wp2_with fail
 go_ret
 exact ⟨rfl, HE.out⟩
theorem zq (D : Ya) (l0 l1 l2 : Lo) (w : World) (hI : WA w D l0 l1 l2) (hW : WL D) :
  Calls Try.prog 20 #[.agg (ZL D l0 l1 l2)] w (lU w (GI D)) := by
 obtain ⟨hb0, hX2, Xk⟩ := Zi w (ZL D l0 l1 l2) #[.slice none 0 0, Z7 0, .slice none 0 0, Z7 0, .slice none 0 0, Z7 0, ZY, Z7 0] 35 35
 have HA := Z9 hW.rst
 have JA : Hid ({ D with k := D.c } = GI D) := Z9 rfl
 generalize GI D = D2 at *
 clear hW
 go_enter Try.func20, Try.ntmps20
 go_upto_region 1 with fail
 change Code.wp _ _ _ _ ((w.alloc (.cells (ZL D l0 l1 l2) 35)).alloc (.cells #[.slice none 0 0, Z7 0, .slice none 0 0, Z7 0, .slice none 0 0, Z7 0, ZY, Z7 0] 35))
 generalize (w.alloc (.cells (ZL D l0 l1 l2) 35)).alloc (.cells #[.slice none 0 0, Z7 0, .slice none 0 0, Z7 0, .slice none 0 0, Z7 0, ZY, Z7 0] 35) = W at *
 obtain ⟨g2, hg2⟩ := ZR w.heap.size
 obtain ⟨g4, hg4⟩ := ZR (g2 + 1)
 have HB0 := Z9 hb0
 rw [show w.heap.size + 1 = g4 by omega] at Xk
 have HG : Hid (w.heap.size ≤ g2 ∧ w.heap.size ≤ g4 ∧ g2 ≠ g4 ∧ g4 ≠ g2) := Z9 (by omega)
 rw [hg2] at hX2
 simp only [hg2]
 simp only [hg4]
 have Yr := Z9 hX2
 have YK := Z9 Xk
 have HI := Z9 (hI.below hb0)
 clear hb0 hg2 hg4 hX2 Xk hI
 obtain ⟨V2, hst2, hY2, hb2, Vu⟩ := I5 (i := 2) (a := l0.a) (n := D.c.1.length) (k := l0.k) (c := D.c.2) (cs' := ZL { D with k := D.c } l0 l0 l2) Yr.out rfl (by decide) HB0.out HG.out.1 rfl
 have h2 := HI.out.st Yr.out rfl Vu
 have hI2 : WA V2 { D with k := D.c } l0 l0 l2 := ⟨h2.c, h2.c, h2.n⟩
 have Kq := YK.out.but Vu HG.out.2.2.2
 refine wl <| ZV (Z5 g2 0) <| ZI rfl ⟨g2, 0, none⟩ (.agg (ZU l0.a D.c.1.length l0.k D.c.2)) (AQ Yr.out) <| ZV (Z5 g2 2) <| Zt rfl (hst2) <| wn ?_
 simp only [pu]
 rw [JA.out] at hI2 hY2
 clear hst2 Vu h2 HI Yr
 go_upto_region 2 with fail
 refine wl <| ZI rfl ⟨g2, 0, none⟩ (.agg (ZL D2 l0 l0 l2)) (Xx hY2) <| Yl (rX V2 D2) (SH D2 l0 l0 l2 V2 hI2 HA.out) (fun vv W3 hq => ?_)
 obtain ⟨m0, m1, m2, rfl, zF, hbp⟩ := hq
 have hx4 := Bx.below Kq (Bx.lt Kq) hbp
 obtain ⟨V9, YJ, Ue, WJ, YA⟩ := P7 (D := D2) (l0 := m0) (l1 := m1) (l2 := m2) hx4 rfl (Below.trans hb2 (hbp.mono (Below.size hb2))) HG.out.2.1
 have bD := zF.st hx4 rfl YA
 simp only [pu]
 refine Zt rfl (YJ) <| wn ?_
 have HE : Hid (lU w D2 (.returned (.agg (ZL D2 m0 m1 m2))) V9) := Z9 ⟨_, rfl, m0, m1, m2, rfl, bD, WJ⟩
 go_wp2_with fail
 exact bodyPost_ret (XJ rfl (by kernel_rfl) (Xx Ue)) rfl HE.out
def uV (w : World) (X : Ya × List XZ × Int) (e : Ending) (w' : World) : Prop := ∃ m0 m1 m2 r, e = .returned (.tuple #[.agg (ZL X.1 m0 m1 m2), r, Z8 X.2.2]) ∧ WA w' X.1 m0 m1 m2 ∧ Wy w' w.heap.size r X.2.1 ∧ Below w.heap.size w w'
def MH (w : World) (X : Ya × Int) (e : Ending) (w' : World) : Prop := ∃ m0 m1 m2, e = .returned (.tuple #[.agg (ZL X.1 m0 m1 m2), Z8 X.2]) ∧ WA w' X.1 m0 m1 m2 ∧ Below w.heap.size w w'
def Xo (A : List Ac) (p : Int) : Ya × Int := if (X4 A).2 = 0 then (Me (X4 A).1 p, 0) else (Uw, (X4 A).2)
theorem Ou (D : Ya) (l0 l1 l2 : Lo) (E : List Bs) (ra : Option Addr) (rc : Nat) (w : World) (hI : WA w D l0 l1 l2) (hW : WL D) (hE : MG w ra E) (hn : E.length ≤ 100000) :
  Calls Try.prog 14 #[.agg (ZL D l0 l1 l2), .slice ra E.length rc] w (uV w (XM D (lsB E))) := by
 obtain ⟨hb0, hX2, Xk⟩ := Zi w (ZL D l0 l1 l2) #[.slice none 0 0, Z7 0, .slice none 0 0, Z7 0, .slice none 0 0, Z7 0, ZY, Z7 0] 35 35
 have CT := fun V hl he => fE D.c.1 D.c.2 D.p E l0.a ra l0.k rc V hl hI.c.le hW.c hW.p he hn
 have hE0 := hE.below hb0
 have HA := Z9 (hW.fin hE.all)
 have HD : Hid ({ D with n := Yu D.c.1 D.c.2 D.p (lsB E) E.length, o := true } = JM D (lsB E)) := Z9 (by unfold JM; rw [Yq])
 have XP : Hid (D.o = true → XM D (lsB E) = (Uw, [], 9)) := Z9 fun h => by unfold XM; rw [if_pos h]
 have Yr : Hid (¬ D.o = true → 512 < E.length → XM D (lsB E) = (Uw, [], 3)) := Z9 fun h h2 => by unfold XM; rw [if_neg h, if_pos (by rw [Yq]; exact h2)]
 have Wu : Hid (¬ D.o = true → ¬ 512 < E.length → XM D (lsB E) = (JM D (lsB E), Ud D.c.1 D.c.2 D.p (lsB E) E.length, 0)) := Z9 fun h h2 => by unfold XM Ez; rw [if_neg h, if_neg (by rw [Yq]; exact h2), Yq]
 generalize XM D (lsB E) = X at *
 generalize JM D (lsB E) = D2 at *
 generalize Yu D.c.1 D.c.2 D.p (lsB E) E.length = U at *
 generalize Ud D.c.1 D.c.2 D.p (lsB E) E.length = Q at *
 have Xf := XP
 have Wq := Yr
 have HQ3 := Wu
 clear hE XP Yr Wu
 go_enter Try.func14, Try.ntmps14
 go_upto_region 1 with fail
 change Code.wp _ _ _ _ ((w.alloc (.cells (ZL D l0 l1 l2) 35)).alloc (.cells #[.slice none 0 0, Z7 0, .slice none 0 0, Z7 0, .slice none 0 0, Z7 0, ZY, Z7 0] 35))
 generalize (w.alloc (.cells (ZL D l0 l1 l2) 35)).alloc (.cells #[.slice none 0 0, Z7 0, .slice none 0 0, Z7 0, .slice none 0 0, Z7 0, ZY, Z7 0] 35) = W at *
 obtain ⟨g2, hg2⟩ := ZR w.heap.size
 obtain ⟨g4, hg4⟩ := ZR (g2 + 1)
 have HB0 := Z9 hb0
 rw [show w.heap.size + 1 = g4 by omega] at Xk
 have HG : Hid (w.heap.size ≤ g2 ∧ w.heap.size ≤ g4 ∧ g2 ≠ g4 ∧ g4 ≠ g2) := Z9 (by omega)
 rw [hg2] at hX2
 simp only [hg2]
 simp only [hg4]
 have Yr := Z9 hX2
 have YK := Z9 Xk
 have HI := Z9 (hI.below hb0)
 clear hb0 hg2 hg4 hX2 Xk hI
 have zS := CT W HI.out.c.cs hE0
 have bP := Z9 hn
 clear CT hE0 hW hn
 by_cases ho : D.o = true
 ·have HO := Z9 ho
  clear ho
  go_upto_region 1 with fail
  refine wl <| ZV (Z5 g2 6) <| ZI rfl ⟨g2, 6, none⟩ Z4 (VW (i := 6) Yr.out (congrArg (fun z => some (Value.bool z)) HO.out)) <| ZV Z4 <| wn ?_
  simp only [pu]
  obtain ⟨V9, YJ, Ue, WJ, YA⟩ := P7 (D := Uw) (l0 := Yb) (l1 := Yb) (l2 := Yb) YK.out rfl HB0.out HG.out.2.1
  have HE : Hid (uV w X (.returned (.tuple #[.agg (ZL Uw Yb Yb Yb), .slice none 0 0, Z8 9])) V9) := Z9 (by rw [Xf.out HO.out]; exact ⟨Yb, Yb, Yb, _, rfl, WA.z V9, Wy.nil _ _, WJ⟩)
  clear WJ YA
  go_upto_region 2 with fail
  refine wl <| ZV (.agg (ZL Uw Yb Yb Yb)) <| Zt rfl (YJ) <| ZG (.slice none 0 0) (Z8 9) <| wn ?_
  simp only [pu]
  go_wp2_with fail
  exact bodyPost_ret (WM rfl (by kernel_rfl) (Xx Ue) rfl rfl) rfl HE.out
 ·have O5 := Z9 ho
  have HO : Hid (D.o = false) := Z9 (by simpa using ho)
  clear ho
  go_upto_region 1 with fail
  refine wl <| ZV (Z5 g2 6) <| ZI rfl ⟨g2, 6, none⟩ ZY (VW (i := 6) Yr.out (congrArg (fun z => some (Value.bool z)) HO.out)) <| ZV ZY <| wn ?_
  simp only [pu]
  by_cases hlen : 512 < E.length
  ·go_upto_region 3 with fail
   refine wl <| ZG (.slice ra E.length rc) (Z8 E.length) <| ZM (Zl rfl E.length 512 dT) <| ZV Z4 <| wn ?_
   simp only [pu]
   have HL5 := Z9 hlen
   clear hlen
   obtain ⟨V9, YJ, Ue, WJ, YA⟩ := P7 (D := Uw) (l0 := Yb) (l1 := Yb) (l2 := Yb) YK.out rfl HB0.out HG.out.2.1
   have HE : Hid (uV w X (.returned (.tuple #[.agg (ZL Uw Yb Yb Yb), .slice none 0 0, Z8 3])) V9) := Z9 (by rw [Wq.out O5.out HL5.out]; exact ⟨Yb, Yb, Yb, _, rfl, WA.z V9, Wy.nil _ _, WJ⟩)
   clear WJ YA
   go_upto_region 4 with fail
   refine wl <| ZV (.agg (ZL Uw Yb Yb Yb)) <| Zt rfl (YJ) <| ZG (.slice none 0 0) (Z8 3) <| wn ?_
   simp only [pu]
   go_wp2_with fail
   exact bodyPost_ret (WM rfl (by kernel_rfl) (Xx Ue) rfl rfl) rfl HE.out
  ·go_upto_region 3 with fail
   refine wl <| ZG (.slice ra E.length rc) (Z8 E.length) <| ZM (Zl rfl E.length 512 dF) <| ZV ZY <| wn ?_
   simp only [pu]
   have HL5 := Z9 hlen
   clear hlen
   go_upto_region 5 with fail
   refine wl <| ZV (Z5 g2 0) <| ZI rfl ⟨g2, 0, none⟩ (.agg (ZU l0.a D.c.1.length l0.k D.c.2)) (AQ Yr.out) <| ZV (Z5 g2 7) <| ZI rfl ⟨g2, 7, none⟩ (Z7 D.p) (Yr.out.ZN 7) <|
    ZV (.slice ra E.length rc) <| Yl (fun v w' => ∃ ad k r, v = .tuple #[.agg (ZU ad U.1.length k U.2), r] ∧ Cs w' ad (acc U.1) ∧ U.1.length ≤ k ∧ Wy w' W.heap.size r Q ∧ Below W.heap.size W w') (zS.mono fun e w' q => by obtain ⟨ad, k, r, h1, h2⟩ := q; exact ⟨_, h1, ad, k, r, rfl, h2⟩) (fun vv W1 hq => ?_)
   obtain ⟨ad, k, r, rfl, hcs, hk, hrr, hb1⟩ := hq
   obtain ⟨V2, hst2, hb2, hx2⟩ := VE W1 ad U.1.length k U.2
   simp only [pu]
   refine YT (.tuple #[.agg (ZU ad U.1.length k U.2), r]) (.agg (ZU ad U.1.length k U.2)) (r) ?_
   simp only [pu]
   refine Zz rfl (some 7) rfl (Z5 W1.heap.size 0) (W1.alloc (.cells (ZU none 0 0 0) 33)) (by kernel_rfl) ?_
   simp only [pu]
   refine Zt rfl (hst2) <| ZV (r) <| wn ?_
   simp only [pu]
   obtain ⟨g7, yB⟩ := ZR W1.heap.size
   have zQ := hb1.trans (hb2.mono hb1.size)
   have bF := Yr.out.below Yr.out.lt zQ
   obtain ⟨V3, hst3, JR, hb3, Sj⟩ := I5 (i := 4) (a := ad) (n := U.1.length) (k := k) (c := U.2) (cs' := ZL { D with n := U } l0 l1 ⟨ad, k⟩) bF rfl (by decide) (HB0.out.trans (zQ.mono HB0.out.size)) HG.out.1 rfl
   obtain ⟨V4, Pz, hY4, hb4, LQ⟩ := Zb (i := 6) (ty := 4) (v := Z4) (cs' := ZL { D with n := U, o := true } l0 l1 ⟨ad, k⟩) JR hb3 HG.out.1 (by show 6 < 8; decide) rfl (by kernel_rfl) rfl
   have h3 := (HI.out.below zQ).st bF rfl Sj
   have h4 : Uo V3 ⟨ad, k⟩ U.1 := (Uo.below (Uo.mk (l := ⟨ad, k⟩) hcs hk) hb2).st bF rfl Sj
   have hI4 : WA V4 { D with n := U, o := true } l0 l1 ⟨ad, k⟩ := ⟨h3.c.st JR rfl LQ, h3.k.st JR rfl LQ, h4.st JR rfl LQ⟩
   have dL := ((YK.out.below YK.out.lt zQ).but Sj HG.out.2.2.2).but LQ HG.out.2.2.2
   have hr4 : Wy V4 W.heap.size r Q := Zv (Zv (own_below hrr hb2) Sj Yr.out.lt) LQ Yr.out.lt
   have hx7 := ZQ hx2
   rw [yB] at hx7 ⊢
   obtain ⟨l3, hl3⟩ := ZR (Lo.mk ad k)
   rw [HD.out, hl3] at hI4 hY4
   clear hst2 hcs hk hrr hb1 hb2 hx2 zQ bF JR hb3 Sj LQ h3 h4 yB hl3 zS
   go_upto_region 6 with fail
   refine wl <| ZI rfl ⟨g7, 0, none⟩ (.agg (ZU ad U.1.length k U.2)) (hx7) <| ZV (Z5 g2 4) <| Zt rfl (hst3) <| ZV (Z5 g2 6) <| Zt rfl (Pz) <| wn ?_
   simp only [pu]
   clear hst3 Pz hx7 HI Yr
   go_upto_region 7 with fail
   refine wl <| ZI rfl ⟨g2, 0, none⟩ (.agg (ZL D2 l0 l1 l3)) (Xx hY4) <| Yl (rX V4 D2) (SH D2 l0 l1 l3 V4 hI4 HA.out) (fun vv W3 hq => ?_)
   obtain ⟨m0, m1, m2, rfl, zF, hbp⟩ := hq
   have hx4 := Bx.below dL (Bx.lt dL) hbp
   obtain ⟨V9, YJ, Ue, WJ, YA⟩ := P7 (D := D2) (l0 := m0) (l1 := m1) (l2 := m2) hx4 rfl (Below.trans hb4 (hbp.mono (Below.size hb4))) HG.out.2.1
   have bD := zF.st hx4 rfl YA
   have TL : Wy V9 W.heap.size r Q := Zv (own_below hr4 hbp) YA YK.out.lt
   have HE : Hid (uV w X (.returned (.tuple #[.agg (ZL D2 m0 m1 m2), r, Z8 0])) V9) := Z9 (by rw [HQ3.out O5.out HL5.out]; exact ⟨m0, m1, m2, r, rfl, bD, own_base TL HB0.out.size, WJ⟩)
   clear hr4 TL hbp WJ YA zF bD hI4 hY4
   simp only [pu]
   refine ZV (r) <| Zt rfl (YJ) <| ZG (r) (Z8 0) <| wn ?_
   simp only [pu]
   go_wp2_with fail
   exact bodyPost_ret (WM rfl (by kernel_rfl) (Xx Ue) rfl rfl) rfl HE.out
theorem EF (D : Ya) (l0 l1 l2 : Lo) (w : World) (hI : WA w D l0 l1 l2) (hW : WL D) :
  Calls Try.prog 17 #[.agg (ZL D l0 l1 l2)] w (MH w (Ox D)) := by
 obtain ⟨hb0, hX2, Xk⟩ := Zi w (ZL D l0 l1 l2) #[.slice none 0 0, Z7 0, .slice none 0 0, Z7 0, .slice none 0 0, Z7 0, ZY, Z7 0] 35 35
 have HA := Z9 hW.com
 have Xf : Hid (D.o = true → Ox D = (AV D, 0)) := Z9 fun h => by unfold Ox; rw [if_pos h]
 have Wq : Hid (¬ D.o = true → Ox D = (Uw, 9)) := Z9 fun h => by unfold Ox; rw [if_neg h]
 have HD : Hid (⟨D.n, D.n, ([], 0), false, D.p⟩ = AV D) := Z9 rfl
 generalize Ox D = X at *
 generalize AV D = D2 at *
 clear hW
 go_enter Try.func17, Try.ntmps17
 go_upto_region 1 with fail
 change Code.wp _ _ _ _ ((w.alloc (.cells (ZL D l0 l1 l2) 35)).alloc (.cells #[.slice none 0 0, Z7 0, .slice none 0 0, Z7 0, .slice none 0 0, Z7 0, ZY, Z7 0] 35))
 generalize (w.alloc (.cells (ZL D l0 l1 l2) 35)).alloc (.cells #[.slice none 0 0, Z7 0, .slice none 0 0, Z7 0, .slice none 0 0, Z7 0, ZY, Z7 0] 35) = W at *
 obtain ⟨g2, hg2⟩ := ZR w.heap.size
 obtain ⟨g4, hg4⟩ := ZR (g2 + 1)
 have HB0 := Z9 hb0
 rw [show w.heap.size + 1 = g4 by omega] at Xk
 have HG : Hid (w.heap.size ≤ g2 ∧ w.heap.size ≤ g4 ∧ g2 ≠ g4 ∧ g4 ≠ g2) := Z9 (by omega)
 rw [hg2] at hX2
 simp only [hg2]
 simp only [hg4]
 have Yr := Z9 hX2
 have YK := Z9 Xk
 have HI := Z9 (hI.below hb0)
 clear hb0 hg2 hg4 hX2 Xk hI
 by_cases ho : D.o = true
 ·have HO := Z9 ho
  clear ho
  go_upto_region 1 with fail
  refine wl <| ZV (Z5 g2 6) <| ZI rfl ⟨g2, 6, none⟩ Z4 (VW (i := 6) Yr.out (congrArg (fun z => some (Value.bool z)) HO.out)) <| ZV ZY <| wn ?_
  simp only [pu]
  have hI2 : WA W ⟨D.n, D.n, ([], 0), false, D.p⟩ l2 l2 Yb := ⟨HI.out.n, HI.out.n, Uo.nil W⟩
  have hd2 := HD.out
  rw [HD.out] at hI2
  go_upto_region 3 with fail
  refine wl <| ZV (Z5 g2 4) <| ZI rfl ⟨g2, 4, none⟩ (.agg (ZU l2.a D.n.1.length l2.k D.n.2)) (wo Yr.out) <| ZV (Z5 g2 4) <| ZI rfl ⟨g2, 4, none⟩ (.agg (ZU l2.a D.n.1.length l2.k D.n.2)) (wo Yr.out) <|
   ZV (Z5 g2 7) <| ZI rfl ⟨g2, 7, none⟩ (Z7 D.p) (Yr.out.ZN 7) <| YO (.agg (ZL D2 l2 l2 Yb)) (by rw [← hd2]; kernel_rfl) <| Yl (rX W D2) (SH D2 l2 l2 Yb W hI2 HA.out) (fun vv W3 hq => ?_)
  obtain ⟨m0, m1, m2, rfl, zF, hbp⟩ := hq
  have hx4 := Bx.below YK.out (Bx.lt YK.out) hbp
  obtain ⟨V9, YJ, Ue, WJ, YA⟩ := P7 (D := D2) (l0 := m0) (l1 := m1) (l2 := m2) hx4 rfl (HB0.out.trans (hbp.mono HB0.out.size)) HG.out.2.1
  have HE : Hid (MH w X (.returned (.tuple #[.agg (ZL D2 m0 m1 m2), Z8 0])) V9) := Z9 (by rw [Xf.out HO.out]; exact ⟨m0, m1, m2, rfl, zF.st hx4 rfl YA, WJ⟩)
  simp only [pu]
  refine Zt rfl (YJ) <| ZV (Z8 0) <| wn ?_
  simp only [pu]
  go_wp2_with fail
  exact bodyPost_ret (ZP rfl (by kernel_rfl) (Xx Ue) rfl) rfl HE.out
 ·have O5 := Z9 ho
  have HO : Hid (D.o = false) := Z9 (by simpa using ho)
  clear ho
  go_upto_region 1 with fail
  refine wl <| ZV (Z5 g2 6) <| ZI rfl ⟨g2, 6, none⟩ ZY (VW (i := 6) Yr.out (congrArg (fun z => some (Value.bool z)) HO.out)) <| ZV Z4 <| wn ?_
  simp only [pu]
  obtain ⟨V9, YJ, Ue, WJ, YA⟩ := P7 (D := Uw) (l0 := Yb) (l1 := Yb) (l2 := Yb) YK.out rfl HB0.out HG.out.2.1
  have HE : Hid (MH w X (.returned (.tuple #[.agg (ZL Uw Yb Yb Yb), Z8 9])) V9) := Z9 (by rw [Wq.out O5.out]; exact ⟨Yb, Yb, Yb, rfl, WA.z V9, WJ⟩)
  clear WJ YA
  go_upto_region 2 with fail
  refine wl <| ZV (.agg (ZL Uw Yb Yb Yb)) <| Zt rfl (YJ) <| ZV (Z8 9) <| wn ?_
  simp only [pu]
  go_wp2_with fail
  exact bodyPost_ret (ZP rfl (by kernel_rfl) (Xx Ue) rfl) rfl HE.out
theorem EL (A : List Ac) (a : Option Addr) (k : Nat) (p : Int) (w : World) (hR : Cs w a (acc A)) (hn : A.length ≤ 4398046511104) (hw : Xz A) (hz : ∀ x, x ∈ A → x.1.size ≤ 140737488355328) (hp : W64 p) :
  Calls Try.prog 10 #[.slice a A.length k, Z7 p] w (MH w (Xo A p)) := by
 have hb0 : Below w.heap.size w (w.alloc (.cells #[.slice none 0 0, Z7 0, .slice none 0 0, Z7 0, .slice none 0 0, Z7 0, ZY, Z7 0] 35)) := (Below.refl _ w).alloc (Nat.le_refl _) _
 have hX0 : Bx (w.alloc (.cells #[.slice none 0 0, Z7 0, .slice none 0 0, Z7 0, .slice none 0 0, Z7 0, ZY, Z7 0] 35)) w.heap.size #[.slice none 0 0, Z7 0, .slice none 0 0, Z7 0, .slice none 0 0, Z7 0, ZY, Z7 0] 35 := heap_alloc_last w _
 have CG := Gv a k A (w.alloc (.cells #[.slice none 0 0, Z7 0, .slice none 0 0, Z7 0, .slice none 0 0, Z7 0, ZY, Z7 0] 35)) (hR.below hb0) hn hw hz
 have e1 : Rk A = ((X4 A).1, 0, (X4 A).2) := rfl
 rw [e1] at CG
 have HA : Hid ((X4 A).2 = 0 → WL (Me (X4 A).1 p)) := Z9 fun h => WL.ini (ML.d ⟨(OA h).1, JX hw, X0⟩) hp
 have Xf : Hid ((X4 A).2 = 0 → Xo A p = (Me (X4 A).1 p, 0)) := Z9 fun h => by unfold Xo; rw [if_pos h]
 have Wq : Hid (¬ (X4 A).2 = 0 → Xo A p = (Uw, (X4 A).2)) := Z9 fun h => by unfold Xo; rw [if_neg h]
 generalize Xo A p = Z at *
 generalize X4 A = X at *
 have HD : Hid (⟨(X.1, 0), (X.1, 0), ([], 0), false, p⟩ = Me X.1 p) := Z9 rfl
 generalize Me X.1 p = D2 at *
 clear hR hn hw hz e1
 go_enter Try.func10, Try.ntmps10
 go_upto_region 1 with fail
 change Code.wp _ _ _ _ (w.alloc (.cells #[.slice none 0 0, Z7 0, .slice none 0 0, Z7 0, .slice none 0 0, Z7 0, ZY, Z7 0] 35))
 generalize w.alloc (.cells #[.slice none 0 0, Z7 0, .slice none 0 0, Z7 0, .slice none 0 0, Z7 0, ZY, Z7 0] 35) = W at *
 obtain ⟨g4, hg4⟩ := ZR w.heap.size
 have HB0 := Z9 hb0
 have HG : Hid (w.heap.size ≤ g4) := Z9 (by omega)
 rw [hg4] at hX0
 simp only [hg4]
 clear hb0 hg4
 refine wl <| ZV (.slice a A.length k) <|
  Yl (fun v w' => ∃ ad kk, v = .tuple #[.agg (ZU ad X.1.length kk 0), Z8 X.2] ∧ ZB w' W.heap.size (.slice ad X.1.length kk) X.1 ∧ Below W.heap.size W w') (CG.mono fun e w' q => by obtain ⟨ad, kk, h1, h2⟩ := q; exact ⟨_, h1, ad, kk, rfl, h2⟩) (fun vv W1 hq => ?_)
 obtain ⟨ad, kk, rfl, hrow, hb1⟩ := hq
 obtain ⟨V2, hst2, hb2, hY2⟩ := VE W1 ad X.1.length kk 0
 simp only [pu]
 refine YT (.tuple #[.agg (ZU ad X.1.length kk 0), Z8 X.2]) (.agg (ZU ad X.1.length kk 0)) (Z8 X.2) ?_
 simp only [pu]
 refine Zz rfl (some 6) rfl (Z5 W1.heap.size 0) (W1.alloc (.cells (ZU none 0 0 0) 33)) (by kernel_rfl) ?_
 simp only [pu]
 refine Zt rfl (hst2) <| ZV (Z8 X.2) <| wn ?_
 simp only [pu]
 obtain ⟨g6, Vk⟩ := ZR W1.heap.size
 have hb3 := hb1.trans (hb2.mono hb1.size)
 have hX2 := hX0.below hX0.lt hb3
 obtain ⟨a9, c9, e9, hcs, hk⟩ := ZB.cs (own_below hrow hb2 : ZB V2 _ _ X.1)
 obtain ⟨rfl, -, rfl⟩ := by simpa only [Value.slice.injEq] using e9
 have HL : Hid (Uo V2 ⟨ad, kk⟩ X.1) := Z9 ⟨hcs, hk⟩
 rw [Vk] at hY2 hst2 ⊢
 have hbw := HB0.out.trans (hb3.mono HB0.out.size)
 clear CG hst2 hrow hb1 hb2 Vk hcs hk e9 hb3 hX0
 by_cases he : X.2 = 0
 ·go_upto_region 2 with fail
  refine wl <| ZV (Z8 X.2) <| ZM (YZ rfl X.2 0 (decide_eq_true he)) <| wn ?_
  simp only [pu]
  have JA := Z9 he
  clear he
  obtain ⟨l3, hl3⟩ := ZR (Lo.mk ad kk)
  have hl := HL.out
  rw [hl3] at hl
  have hI2 : WA V2 ⟨(X.1, 0), (X.1, 0), ([], 0), false, p⟩ l3 l3 Yb := ⟨hl, hl, Uo.nil V2⟩
  rw [HD.out] at hI2
  have hd2 : ZL D2 ⟨ad, kk⟩ ⟨ad, kk⟩ Yb = ZL D2 l3 l3 Yb := by rw [hl3]
  have hd3 := HD.out
  clear hl hl3
  go_upto_region 4 with fail
  refine wl <| ZI rfl ⟨g6, 0, none⟩ (.agg (ZU ad X.1.length kk 0)) (ZQ hY2) <| ZI rfl ⟨g6, 0, none⟩ (.agg (ZU ad X.1.length kk 0)) (ZQ hY2) <| ZV (Z7 p) <| YO (.agg (ZL D2 l3 l3 Yb)) (by rw [← hd2, ← hd3]; kernel_rfl) <|
   Yl (rX V2 D2) (SH D2 l3 l3 Yb V2 hI2 (HA.out JA.out)) (fun vv W3 hq => ?_)
  obtain ⟨m0, m1, m2, rfl, zF, hbp⟩ := hq
  have hx4 := Bx.below hX2 (Bx.lt hX2) hbp
  obtain ⟨V9, YJ, Ue, WJ, YA⟩ := P7 (D := D2) (l0 := m0) (l1 := m1) (l2 := m2) hx4 rfl (hbw.trans (hbp.mono hbw.size)) HG.out
  have HE : Hid (MH w Z (.returned (.tuple #[.agg (ZL D2 m0 m1 m2), Z8 0])) V9) := Z9 (by rw [Xf.out JA.out]; exact ⟨m0, m1, m2, rfl, zF.st hx4 rfl YA, WJ⟩)
  simp only [pu]
  refine Zt rfl (YJ) <| ZV (Z8 0) <| wn ?_
  simp only [pu]
  go_wp2_with fail
  exact bodyPost_ret (ZP rfl (by kernel_rfl) (Xx Ue) rfl) rfl HE.out
 ·go_upto_region 2 with fail
  refine wl <| ZV (Z8 X.2) <| ZM (YZ rfl X.2 0 (decide_eq_false he)) <| wn ?_
  simp only [pu]
  obtain ⟨V9, YJ, Ue, WJ, YA⟩ := P7 (D := Uw) (l0 := Yb) (l1 := Yb) (l2 := Yb) hX2 rfl hbw HG.out
  have HE : Hid (MH w Z (.returned (.tuple #[.agg (ZL Uw Yb Yb Yb), Z8 X.2])) V9) := Z9 (by rw [Wq.out he]; exact ⟨Yb, Yb, Yb, rfl, WA.z V9, WJ⟩)
  clear WJ YA he
  go_upto_region 3 with fail
  refine wl <| ZG (.agg (ZL Uw Yb Yb Yb)) (Z8 X.2) <| Zt rfl (YJ) <| ZV (Z8 X.2) <| wn ?_
  simp only [pu]
  go_wp2_with fail
  exact bodyPost_ret (ZP rfl (by kernel_rfl) (Xx Ue) rfl) rfl HE.out
end Go.Proofs.Ytnhlpahoomcgnaa.Lg
namespace Go.Proofs.Ytnhlpahoomcgnaa.Lg
open Mo (Zd Zm YL YU)
open Go.RowKit
def kU : Zf := ⟨Xn, 0, 300, 0, Vr, [(Wn, 5)]⟩
def kA : List Ac := [(Xn, 1000, 0)]
def kB : List Ac := [(Xn, 995, 1), (Wn, 5, 0)]
theorem EC : X5 kU = 0 := by
 unfold X5 kU
 simp only [kJ, aQ, kH, VP]
 decide
theorem aP : W64 5 := mG 5 (by decide)
theorem rZ : Gz kU := (val_ok EC (mG 0 (by decide)) (mG 300 (by decide)) (mG 0 (by decide)) (fun x hx => by
 have e : x = (Wn, 5) := by simpa [kU] using hx
 rw [e]; exact aP)).1
theorem IJ : (form kU).length = 17 := by decide +kernel
theorem lu : Rn kU = (form kU, 0) := by unfold Rn; rw [if_neg (by rw [EC]; decide), if_neg (by rw [IJ]; decide)]
theorem uF : Zq (form kU) = (kU, 0) := zo rZ EC (by rw [IJ]; decide) (by decide)
theorem aO : Y8 kA 0 = 0 := by decide +kernel
theorem aN : Y8 kB 0 = 0 := by decide +kernel
theorem aK : Yy kA 0 kU 17 = 0 := by decide +kernel
theorem kG : Yy kB 0 kU 17 = 14 := by decide +kernel
theorem aJ : Yt kA kU = kB := by decide +kernel
theorem kF : Zm kU.Y6 kU.Zk = 0 := by decide +kernel
def r1 : XZ := ⟨0, Xn, 0, 300, 0⟩
def r2 : XZ := ⟨14, Xn, 0, 300, 0⟩
theorem II : Vq kA 0 0 (form kU) = ((kB, 0), r1) := by
 unfold Vq
 rw [uF, IJ]
 simp only [kF]
 rw [if_neg (by rw [aO]; decide), if_neg (by decide), if_neg (by rw [show ((17 : Nat) : Int) = 17 from rfl, aK]; decide), aJ]
 rfl
theorem kE : Vq kB 0 0 (form kU) = ((kB, 0), r2) := by
 unfold Vq
 rw [uF, IJ]
 simp only [kF]
 rw [if_neg (by rw [aN]; decide), if_neg (by decide), if_pos (by rw [show ((17 : Nat) : Int) = 17 from rfl, kG]; decide), show ((17 : Nat) : Int) = 17 from rfl, kG]
 rfl
theorem aI : Yu kA 0 0 [form kU] 1 = (kB, 0) := by rw [UQ (by decide), Gy]; exact congrArg (·.1) II
theorem kD : Vj kA 0 0 [form kU] 0 = r1 := congrArg (·.2) II
theorem aH : Ud kA 0 0 [form kU] 1 = [r1] := by rw [Pq, kD]; rfl
theorem su : QZ kA 0 := ⟨by decide, X0, QG fun x hx => by
 have e : x = (Xn, 1000, 0) := by simpa [kA] using hx
 rw [e]; exact ⟨mG 1000 (by decide), mG 0 (by decide)⟩, fun x hx => by
 have e : x = (Xn, 1000, 0) := by simpa [kA] using hx
 rw [e]; exact Nat.le_trans (show Xn.size ≤ 3 by decide) (by decide)⟩
theorem aG : X4 kA = (kA, 0) := by decide +kernel
def D1 : Ya := Me kA 0
def D2 : Ya := ⟨(kA, 0), (kB, 0), ([], 0), false, 0⟩
def D3 : Ya := ⟨(kA, 0), (kB, 0), (kB, 0), true, 0⟩
def D4 : Ya := ⟨(kB, 0), (kB, 0), ([], 0), false, 0⟩
theorem lD : WL D1 := WL.ini su X0
theorem lI : Xo kA 0 = (D1, 0) := by unfold Xo; rw [aG]; rfl
theorem uK : JW D1 (form kU) = D2 := by
 have h : (Vq kA 0 0 (form kU)).1 = (kB, 0) := congrArg (·.1) II
 unfold JW
 exact congrArg (fun z => (⟨(kA, 0), z, ([], 0), false, 0⟩ : Ya)) h
theorem sF : ∀ y, y ∈ form kU → W8 y := Po rZ.vf
theorem lC : WL D2 := by rw [← uK]; exact lD.acc sF
theorem aY : GK D1 (form kU) = r1 := congrArg (·.2) II
theorem aX : GK D2 (form kU) = r2 := congrArg (·.2) kE
theorem uJ : XM D2 [form kU] = (D3, [r1], 0) := by
 unfold XM
 rw [if_neg (by decide), if_neg (by decide)]
 have h1 : JM D2 [form kU] = D3 := congrArg (fun z => (⟨(kA, 0), (kB, 0), z, true, 0⟩ : Ya)) aI
 have h2 : Ez D2 [form kU] = [r1] := aH
 rw [h1, h2]
theorem aW : WL D3 := by
 have h := lC.XM (Ls := [form kU]) (fun L hL => by rw [List.mem_singleton.1 hL]; exact sF)
 rw [uJ] at h
 exact h
theorem sG : XM D3 [] = (Uw, [], 9) := by unfold XM; rw [if_pos (show D3.o = true from rfl)]
theorem lH : Ox D3 = (D4, 0) := by unfold Ox; rw [if_pos (show D3.o = true from rfl)]; rfl
theorem lG : GI D2 = D1 := rfl
theorem lF : JV D2 [form kU] = true := by
 unfold JV
 have h : TF kA 0 0 [form kU] = (Yu kA 0 0 [form kU] 1, 0, 0) := Ey fun j hj => by
  obtain rfl : j = 0 := by have : j < 1 := hj; omega
  rw [kD]; rfl
 have h2 : (TF D2.c.1 D2.c.2 D2.p [form kU]).2.2 = 0 := by
  show (TF kA 0 0 [form kU]).2.2 = 0
  rw [h]
 exact decide_eq_true h2
end Go.Proofs.Ytnhlpahoomcgnaa.Lg
namespace Go.Proofs.Ytnhlpahoomcgnaa.Lg
attribute [local irreducible] wpList wpQuiet
open Mo (Zd Zm YL YU)
open Go.RowKit
theorem dK {ρ : Operand → Value} {o : Oper} {x y : Operand} (ho : o.op = .binOp .eql 4 x y 4) (a : Bool) (hx : ρ x = .bool a) (hy : ρ y = .bool a) (w : World) : (execOp ρ o).run Try.prog w = .ok (.value Z4) w := by
 unfold execOp
 simp only [ho, hx, hy]
 cases a <;> go_simp
theorem EJ (D : Ya) (l0 l1 l2 m0 m1 m2 : Lo) (w : World) (hI : WA w D l0 l1 l2) (hJ : WA w D m0 m1 m2) (hW : WL D) :
  Calls Try.prog 12 #[.agg (ZL D l0 l1 l2), .agg (ZL D m0 m1 m2)] w fun e w' => e = .returned Z4 ∧ Below w.heap.size w w' := by
 obtain ⟨hb0, hX2, Xk⟩ := Zi w (ZL D l0 l1 l2) (ZL D m0 m1 m2) 35 35
 have hJ := hJ.below hb0
 have zf := Z9 (fun (V : World) (h1 : Cs V l0.a (acc D.c.1)) h2 => U9 D.c.1 D.c.2 l0.a m0.a l0.k m0.k V h1 h2 hW.c.n)
 have zJ := Z9 (fun (V : World) (h1 : Cs V l1.a (acc D.k.1)) h2 => U9 D.k.1 D.k.2 l1.a m1.a l1.k m1.k V h1 h2 hW.k.n)
 have HS2 := Z9 (fun (V : World) (h1 : Cs V l2.a (acc D.n.1)) h2 => U9 D.n.1 D.n.2 l2.a m2.a l2.k m2.k V h1 h2 hW.n.n)
 clear hW
 go_enter Try.func12, Try.ntmps12
 go_upto_region 1 with fail
 change Code.wp _ _ _ _ ((w.alloc (.cells (ZL D l0 l1 l2) 35)).alloc (.cells (ZL D m0 m1 m2) 35))
 generalize (w.alloc (.cells (ZL D l0 l1 l2) 35)).alloc (.cells (ZL D m0 m1 m2) 35) = W at *
 obtain ⟨g2, hg2⟩ := ZR w.heap.size
 obtain ⟨g4, hg4⟩ := ZR (g2 + 1)
 have HB0 := Z9 hb0
 rw [show w.heap.size + 1 = g4 by omega] at Xk
 rw [hg2] at hX2
 simp only [hg2]
 simp only [hg4]
 have Yr := Z9 hX2
 have YK := Z9 Xk
 have HI := Z9 (hI.below hb0)
 have HJ := Z9 hJ
 clear hb0 hg2 hg4 hX2 Xk hI hJ
 have C0 := zf.out W HI.out.c.cs HJ.out.c.cs
 have Wh := Z9 (Below.refl W.heap.size W)
 refine wl <| ZV (Z5 g2 0) <| ZI rfl ⟨g2, 0, none⟩ (.agg (ZU l0.a D.c.1.length l0.k D.c.2)) (AQ (Yr.out.below Yr.out.lt Wh.out)) <| ZV (Z5 g4 0) <|
  ZI rfl ⟨g4, 0, none⟩ (.agg (ZU m0.a D.c.1.length m0.k D.c.2)) (AQ (YK.out.below YK.out.lt Wh.out)) <| Y2 Z4 (fun w' => Below W.heap.size W w') (C0) (fun V1 hq => ?_)
 have Wh := Z9 hq
 have C1 := zJ.out V1 (HI.out.k.cs.below hq) (HJ.out.k.cs.below hq)
 clear hq
 simp only [pu]
 refine ZG Z4 (Z5 g2 2) <| ZI rfl ⟨g2, 2, none⟩ (.agg (ZU l1.a D.k.1.length l1.k D.k.2)) (wu (Yr.out.below Yr.out.lt Wh.out)) <| ZV (Z5 g4 2) <|
  ZI rfl ⟨g4, 2, none⟩ (.agg (ZU m1.a D.k.1.length m1.k D.k.2)) (wu (YK.out.below YK.out.lt Wh.out)) <| Y2 Z4 (fun w' => Below V1.heap.size V1 w') (C1) (fun V2 hq => ?_)
 have Wh := Z9 (Wh.out.trans (hq.mono Wh.out.size))
 have C2 := HS2.out V2 (HI.out.n.cs.below Wh.out) (HJ.out.n.cs.below Wh.out)
 clear hq
 simp only [pu]
 refine YT Z4 Z4 (Z5 g2 4) <| ZI rfl ⟨g2, 4, none⟩ (.agg (ZU l2.a D.n.1.length l2.k D.n.2)) (wo (Yr.out.below Yr.out.lt Wh.out)) <| ZV (Z5 g4 4) <|
  ZI rfl ⟨g4, 4, none⟩ (.agg (ZU m2.a D.n.1.length m2.k D.n.2)) (wo (YK.out.below YK.out.lt Wh.out)) <| Y2 Z4 (fun w' => Below V2.heap.size V2 w') (C2) (fun V3 hq => ?_)
 have Wh := Z9 (Wh.out.trans (hq.mono Wh.out.size))
 have HE := Z9 (HB0.out.trans (Wh.out.mono HB0.out.size))
 clear hq
 simp only [pu]
 refine YT Z4 Z4 (Z5 g2 6) <| ZI rfl ⟨g2, 6, none⟩ (.bool D.o) ((Yr.out.below Yr.out.lt Wh.out).ZN 6) <| ZV (Z5 g4 6) <|
  ZI rfl ⟨g4, 6, none⟩ (.bool D.o) ((YK.out.below YK.out.lt Wh.out).ZN 6) <| YN Z4 (dK rfl D.o) <| YT Z4 Z4 (Z5 g2 7) <|
  ZI rfl ⟨g2, 7, none⟩ (Z7 D.p) ((Yr.out.below Yr.out.lt Wh.out).ZN 7) <| ZV (Z5 g4 7) <| ZI rfl ⟨g4, 7, none⟩ (Z7 D.p) ((YK.out.below YK.out.lt Wh.out).ZN 7) <|
  ZM (I8 rfl D.p D.p (decide_eq_true rfl)) <| ZG Z4 Z4 <| wn ?_
 simp only [pu]
 go_wp2_with fail
 go_ret
 exact ⟨rfl, HE.out⟩
end Go.Proofs.Ytnhlpahoomcgnaa.Lg
