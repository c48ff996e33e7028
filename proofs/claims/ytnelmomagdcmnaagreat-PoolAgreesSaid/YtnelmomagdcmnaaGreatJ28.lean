/-
  Texts joined.
-/
import Derived.Test.YtnelmomagdcmnaaGreatJ27
set_option maxRecDepth 100000
set_option maxHeartbeats 8000000
set_option linter.unusedSimpArgs false
set_option linter.unusedVariables false
namespace Go.Proofs.YtnelmomagdcmnaaGreat
attribute [local irreducible] wpList wpQuiet
open Go.RowKit
theorem mV {w:World}{g u:Nat}{d:Pd}{s:Ps}{c:List Int}{m:Sm}{M:List Hp.It}{R:List Sd.Rw}{L:List El}(h:Pq w g d s c u m M R L L (L.map Qb))(hi:PI c u m M R L)(hc:LY c)(e:En)(dd:Ad)(he:LZ e)(h0:YC (c.getD 0 0) (c.getD 1 0) (eL L) e≠0):Calls Tryz.prog 27 #[Z7 g 0,.agg (ZO e dd)] w fun r w'=>r=.returned (Z9 (YC (c.getD 0 0) (c.getD 1 0) (eL L) e))/\Below w.heap.size w w':=by
 have Gn:Hid (∀ U,Below w.heap.size w U->Calls Tryz.prog 58 #[Z7 g 0,.agg (ZO e dd)] U fun r w'=>r=.returned (Z9 (YC (c.getD 0 0) (c.getD 1 0) (eL L) e))/\Below U.heap.size U w'):=Z8 fun U hU=>Ju (h.below hU) hi hc e dd he;obtain⟨iv,hiv⟩:=ZR (YC (c.getD 0 0) (c.getD 1 0) (eL L) e);rw[hiv] at Gn h0 ⊢;have H0:=Z8 h0;clear h hi hc he h0 hiv;go_enter Tryz.func27,Tryz.ntmps27;go_upto_region 1 with fail;change Code.wp _ _ _ _ (w.alloc (.cells (ZO e dd) 52));have Zd:Below w.heap.size w (w.alloc (.cells (ZO e dd) 52)):=(Below.refl _ w).alloc (Nat.le_refl _) _;have Zr:Bx (w.alloc (.cells (ZO e dd) 52)) w.heap.size (ZO e dd) 52:=heap_alloc_last w _;have Yg:(w.alloc (.cells (ZO e dd) 52)).heap.size=w.heap.size+1:=by simp
 generalize w.alloc (.cells (ZO e dd) 52)=W at *
 obtain⟨g3,hg3⟩:=ZR w.heap.size;rw[hg3] at Zr;have Xm:Hid (g3=w.heap.size+0/\W.heap.size=w.heap.size+1):=Z8 ⟨by omega,by omega⟩;have HB:=Z8 Zd;simp only[hg3];clear Zd Yg hg3;refine wl<|ZQ (Z7 g 0)<|ZC rfl ⟨g3,0,none⟩ (.agg (ZO e dd)) (ZE (ZU Zr))<|YD (Z9 iv) (fun w'=>Below W.heap.size W w') (Gn.out W HB.out) (fun W1 hW1=>?_);refine ZQ (Z9 iv)<|wn ?_;simp only[pu];have HE:=Z8 (HB.out.trans (hW1.mono HB.out.size));clear Zr hW1;go_upto_region 2 with fail;refine wl<|ZQ (Z9 iv)<|Zg (SL rfl iv 0 (decide_eq_true H0.out))<|wn ?_;simp only[pu];go_upto_region 3 with fail;refine wl<|ZB (Z9 iv) (Z9 iv)<|wn ?_;simp only[pu];go_wp2_with fail;go_ret;exact⟨rfl,HE.out⟩
theorem wC {w:World}{g t u:Nat}{c:List Int}{d:Pd}(h:Bx w g (O4 c u d) t):(Instr.loadAt 25 (Z7 g 0)).run Tryz.prog w=.ok (.agg (Zu c)) w:=run_loadAt_mid w g 0 25 (Zu c).toList _ (fun j v hv=>(ZU (cs:=(Zu c).toList++[Z9 u,.map (some d.Bp),.map (some d.Bk),Z7 d.gs 0,Z7 d.gh 0,Z7 d.gi 0,Z7 d.gq 0]) h) j v (by rw[List.getElem?_append_left (List.getElem?_eq_some_iff.1 hv).1]; exact hv)) Tryz.underlying25 rfl (by kernel_rfl)
theorem yV {w:World}{g t u:Nat}{c:List Int}{d:Pd}(h:Bx w g (O4 c u d) t):(Instr.loadAt 95 (Z7 g 0)).run Tryz.prog w=.ok (.agg (O4 c u d)) w:=run_loadAt_mid w g 0 95 (O4 c u d).toList _ (ZU (cs:=(O4 c u d).toList) h) Tryz.underlying95 rfl (by kernel_rfl)
theorem yU {w V1 V3:World}{g g2 B v:Nat}{S S2:Nat->Prop}{c:List Int}{d:Pd}{s:Ps}{m:Sm}{M:List Hp.It}{R:List Sd.Rw}{L:List El}(hq:Pq V1 g2 d s c v m M R L L (L.map Qb))(hi:PI c v m M R L)(hc:LY c)(hS:∀ k,S2 k↔∃ i,Pp g2 d s i k)(hv:v<=0)(hL:eL L=[])(h2:∀ k,S2 k->w.heap.size<=k)(hg:g<w.heap.size)(hgS:S g)(hb:Below w.heap.size w V1)(hX:Bx V3 g (O4 c v d) 95)(hbt:But g V1 V3)(hB:∀ k,S k->B<=k)(hw:B<=w.heap.size):UL g B S c 0 [] w V3:=by
 have hn:∀ i k,1<=i->Pp g d s i k->w.heap.size<=k:=fun i k hi q=>h2 k ((hS k).2 ⟨i,Un hi q⟩);have hsm:∀ i k,1<=i->Pp g2 d s i k->V3.heap[k]?=V1.heap[k]?:=fun i k hi q=>hbt.2 k (hq.inn i k q) (by have:=h2 k ((hS k).2 ⟨i,q⟩); omega);have hdis:∀ i j k,Pp g d s i k->Pp g d s j k->i=j:=fun i j k a b=>by
  rcases Nat.eq_zero_or_pos i with e1 | e1 <;> rcases Nat.eq_zero_or_pos j with e2 | e2
  ·rw[e1,e2]
  ·subst e1;have e:k=g:=a;have:=hn j k e2 b; omega
  ·subst e2;have e:k=g:=b;have:=hn i k e1 a; omega
  ·exact hq.Qa i j k (Un e1 a) (Un e2 b)
 refine⟨fun k=>∃ i,Pp g d s i k,⟨v,L,hv,hL,d,s,m,M,R,⟨hX,hq.pl.same (hsm 1 _ (by omega) rfl),hq.ky.same (hsm 2 _ (by omega) rfl),VT.same hq.st fun k q=>hsm 3 k (by omega) q,hq.hp.same fun k q=>hsm 4 k (by omega) q,hq.sn.same fun k q=>hsm 5 k (by omega) q,hq.ex.same fun k q=>hsm 6 k (by omega) q,hdis⟩,hi,hc,fun k=>Iff.rfl⟩,fun k ⟨i,q⟩=>?_,(hb.mono hw).trans (hbt.1.mono (hB g hgS)),fun k hk hn2=>(hbt.2 k (Nat.lt_of_lt_of_le hk hb.size) (fun e=>hn2 (e ▸ hgS))).trans (hb.block k hk)⟩;rcases Nat.eq_zero_or_pos i with e1 | e1
 ·subst e1;have e:k=g:=q;rw[e]; exact .inl hgS
 ·exact .inr (hn i k e1 q)
theorem YQ.reset {w:World}{g u B:Nat}{S:Nat->Prop}{c:List Int}{E:List En}(h:YQ w g S c u E)(hB:∀ k,S k->B<=k)(hw:B<=w.heap.size):Calls Tryz.prog 33 #[Z7 g 0] w fun r w'=>r=.returned (.tuple #[])/\UL g B S c 0 [] w w':=by
 obtain⟨v0,L,hv0,rfl,d,s,m,M,R,hq,hi,hc,hS⟩:=h;have hX:=hq.bx;have hgS:S g:=(hS g).2 ⟨0,rfl⟩;have CN:=I7 hc.ok w;rw[wu hc] at CN;have XD:Hid (∀ (V1:World) (g2:Nat) (S2:Nat->Prop),YQ V1 g2 S2 c 0 []->(∀ k,S2 k->w.heap.size<=k)->Below w.heap.size w V1->∃ v d2 V3,(Instr.loadAt 95 (Z7 g2 0)).run Tryz.prog V1=.ok (.agg (O4 c v d2)) V1/\(Instr.storeAt 95 (Z7 g 0) (.agg (O4 c v d2))).run Tryz.prog V1=.ok () V3/\UL g B S c 0 [] w V3):=Z8 fun V1 g2 S2 hr h2 hb=>by
  obtain⟨v,L2,hv,hL,d2,s2,m2,M2,R2,hq2,hi2,hc2,hS2⟩:=hr;obtain⟨V3,hst,Zr,hbt⟩:=st_all (cs':=O4 c v d2) (ty:=95) (hX.below hX.lt hb) rfl (by kernel_rfl) (by kernel_rfl);exact⟨v,d2,V3,yV hq2.bx,hst,yU hq2 hi2 hc2 hS2 hv hL h2 hX.lt hgS hb Zr hbt hB hw⟩
 clear hq hi hc hS hB hw hgS hv0;go_enter Tryz.func33,Tryz.ntmps33;go_upto_region 0 with fail;refine wl<|ZB (Z7 g 0) ZX<|wn ?_;simp only[pu];go_upto_region 1 with fail;refine wl<|Qc (Z7 g 0) (Z7 g 0) (Z7 g 0) (Z7 g 0)<|ZC rfl ⟨g,0,none⟩ (.agg (Zu c)) (wC hX) <|
  XQ (fun v w'=>∃ g2 S2,v=Z7 g2 0/\YQ w' g2 S2 c 0 []/\(∀ k,S2 k->w.heap.size<=k)/\Below w.heap.size w w') (CN.mono fun e9 w' z=>by obtain⟨g2,S2,h1,h2,h3,h4⟩:=z; exact⟨_,h1,g2,S2,rfl,h2,h3,h4⟩) (fun vv V1 hq=>?_)
 obtain⟨g2,S2,rfl,hr2,hl2,hb2⟩:=hq;obtain⟨v2,d2,V3,hld,hst,hU⟩:=XD.out V1 g2 S2 hr2 hl2 hb2;have HE:=Z8 hU;clear hr2 hl2 hb2 hU XD CN;refine ZQ (Z7 g2 0)<|ZC rfl ⟨g2,0,none⟩ (.agg (O4 c v2 d2)) (hld)<|ZQ (Z7 g 0)<|Yb rfl (hst)<|wn ?_;simp only[pu];clear hst hld hX;go_wp2_with fail;exact bodyPost_end (v:=.tuple #[]) (by kernel_rfl) rfl ⟨rfl,HE.out⟩
theorem YQ.insert {w:World}{g u B:Nat}{S:Nat->Prop}{c:List Int}{E:List En}(h:YQ w g S c u E)(e:En)(dd:Ad)(he:LZ e)(hI:Vh w e dd)(ho:∀ k,EB e dd k->¬ S k)(hB:∀ k,S k->B<=k)(hw:B<=w.heap.size)(hu:u<=100000):Calls Tryz.prog 27 #[Z7 g 0,.agg (ZO e dd)] w fun r w'=>r=.returned (Z9 (YC (c.getD 0 0) (c.getD 1 0) E e))/\UL g B S c (u+1) (insL (c.getD 0 0) (c.getD 1 0) E e) w w':=by
 have h1:=h;obtain⟨v,L,hv,rfl,d,s,m,M,R,hq,hi,hc,hS⟩:=h;by_cases h0:YC (c.getD 0 0) (c.getD 1 0) (eL L) e=0
 ·refine(mQ (B:=B) hq hi hc e dd he hI (fun k hk i q=>ho k hk ((hS k).2 ⟨i,q⟩)) (fun i k q=>hB k ((hS k).2 ⟨i,q⟩)) hw (by omega) h0).mono fun r w' z=>⟨by rw[z.1,h0],?_⟩;obtain⟨s',h2,h3⟩:=z.2;rw[QG h0];have h4:=hi.ins he h0;have h5:=h3.fin hS h2 h4.2.2.2.2.2.2.2.2 hc (u:=u+1) (by omega);rw[Rt] at h5;exact h5
 ·refine(mV hq hi hc e dd he h0).mono fun r w' z=>⟨z.1,?_⟩;rw[IY h0];exact(h1.mono (Nat.le_succ u)).upd z.2 hw
theorem YQ.remove {w:World}{g u B:Nat}{S:Nat->Prop}{c:List Int}{E:List En}(h:YQ w g S c u E)(k:Nat->Int)(hB:∀ k,S k->B<=k)(hw:B<=w.heap.size)(hu:u<=100000):Calls Tryz.prog 31 #[Z7 g 0,.agg (Zv k)] w fun r w'=>r=.returned (.bool (XP E k))/\UL g B S c u (PX E k) w w':=by
 have h1:=h;obtain⟨v,L,hv,rfl,d,s,m,M,R,hq,hi,hc,hS⟩:=h;cases hf:TI k L with
 | none=>
  have h0:XP (eL L) k=false:=by
   have:=QF (L:=L) (k:=k);rw[hf] at this;exact this.symm
  refine(mP (B:=B) hq hi k hf).mono fun r w' z=>⟨by rw[z.1,h0],?_⟩;rw[mO h0];exact h1.upd z.2 hw
 | some x=>
  have h0:XP (eL L) k=true:=by
   have:=QF (L:=L) (k:=k);rw[hf] at this;exact this.symm
  obtain⟨A,C,rfl,hat,hks⟩:=LX hi.wp.key hf;have hxk:=(TG hf).2;refine(aZ (B:=B) (L:=[]) hq hi k hf (fun y hy=>?_) (fun i k q=>hB k ((hS k).2 ⟨i,q⟩)) hw (by omega)).mono fun r w' z=>⟨by rw[z.1,h0],?_⟩
  ·have h2:=hks y (List.mem_append_left _ hy);cases q:keq y.e.k k with
   | false=>rfl
   | true=>rw[N7 q (Ro hxk)] at h2; cases h2
  ·obtain⟨s',h2,h3⟩:=z.2;have h4:=h3.fin hS h2 hi.rem.2.2.2.2.2.2 hc hv;have h5:PX (eL (A++x::C)) k=eL (A++C):=by
    unfold PX;rw[hat,Rt,Rt,show A.length=(eL A).length from(Rn A).symm,List.take_left,show eL (x::C)=x.e::eL C from rfl,<- List.drop_drop,List.drop_left];rfl
   rw[h5];exact h4
def Nk (E:List En)(k:Nat->Int):En:=if XP E k then E.getD (Vs k E) Zp else Zp
theorem YQ.get {w:World}{g u B:Nat}{S:Nat->Prop}{c:List Int}{E:List En}(h:YQ w g S c u E)(k:Nat->Int):Calls Tryz.prog 21 #[Z7 g 0,.agg (Zv k)] w fun r w'=>∃ d2,r=.returned (.tuple #[.agg (ZO (Nk E k) d2),.bool (XP E k)])/\Ws w' w.heap.size (Nk E k) d2/\Below w.heap.size w w':=by
 obtain⟨v,L,hv,rfl,d,s,m,M,R,hq,hi,hc,hS⟩:=h;cases hf:TI k L with
 | none=>
  have h0:XP (eL L) k=false:=by
   have:=QF (L:=L) (k:=k);rw[hf] at this;exact this.symm
  unfold Nk;rw[h0];exact(gG hq hi k hf).mono fun r w' z=>⟨YE,z.1,⟨World.ownsRow_nil _ _ _ _,World.ownsRow_nil _ _ _ _⟩,z.2⟩
 | some x=>
  have h0:XP (eL L) k=true:=by
   have:=QF (L:=L) (k:=k);rw[hf] at this;exact this.symm
  have h1:Nk (eL L) k=x.e:=by
   obtain⟨A,C,rfl,hat,-⟩:=LX hi.wp.key hf;unfold Nk;rw[h0,if_pos rfl,hat,Rt,List.getD_eq_getElem?_getD,List.getElem?_append_right (by rw[Rn]; exact Nat.le_refl _),Rn,Nat.sub_self];rfl
  rw[h0,h1];exact Dz hq hi k hf
section
variable {ρ : Operand -> Value} {o : Oper} {x y : Operand}
theorem AY (ho:o.op=.binOp .neq 4 x y 4)(b:Bool)(hx:ρ x=.bool b)(hy:ρ y=.bool b)(w:World):(execOp ρ o).run Tryz.prog w=.ok (.value ZY) w:=by
 unfold execOp;simp only[ho,hx,hy];go_simp
theorem IW (ho:o.op=.binOp .eql 61 x y 61)(a b:Int){t:Bool}(ht:decide (a=b)=t)(hx:ρ x=Z9 a)(hy:ρ y=Z9 b)(w:World):(execOp ρ o).run Tryz.prog w=.ok (.value (.bool t)) w:=by
 have e:(a == b)=t:=ht;unfold execOp;simp only[ho,hx,hy];go_simp
end
structure yZ (B:Nat)(w:World)(g0:Nat)(S:Nat->Prop)(c:List Int)(u:Nat)(E:List En)(V:World):Prop where
 rep:YQ V g0 S c u E
 so:∀ k,S k->B<=k
 bz:B<=V.heap.size
 bel:Below w.heap.size w V
 wB:w.heap.size<=B
structure BxO (V:World)(S:Nat->Prop)(q:Nat)(cs:Array Value)(t:Nat):Prop where
 bx:Bx V q cs t
 ns:¬ S q
section
variable {B : Nat} {w V V2 : World} {g0 q t : Nat} {S S2 : Nat -> Prop} {c : List Int} {u u2 : Nat} {E E2 : List En} {cs : Array Value}
theorem yZ.below (h:yZ B w g0 S c u E V)(hb:Below V.heap.size V V2):yZ B w g0 S c u E V2:=⟨h.rep.below hb,h.so,Nat.le_trans h.bz hb.size,h.bel.trans (hb.mono h.bel.size),h.wB⟩
theorem yZ.upd (h:yZ B w g0 S c u E V)(hu:UL g0 B S c u2 E2 V V2):∃ S2,yZ B w g0 S2 c u2 E2 V2/\(∀ k,k<V.heap.size->¬ S k->¬ S2 k)/\ZL B S V V2:=by
 obtain⟨S2,h1,h2,h3⟩:=hu;exact⟨S2,⟨h1,fun k hk=>(h2 k hk).elim (h.so k) (Nat.le_trans h.bz),Nat.le_trans h.bz h3.1.size,h.bel.trans (h3.1.mono h.wB),h.wB⟩,fun k hk hn h4=>(h2 k h4).elim hn (by omega),h3⟩
theorem yZ.ins (h:yZ B w g0 S c u E V){e:En}{d:Ad}(he:LZ e)(hI:Vh V2 e d)(ho:∀ k,EB e d k->¬ S k)(hb:Below V.heap.size V V2)(hu:u<=100000):Calls Tryz.prog 27 #[Z7 g0 0,.agg (ZO e d)] V2 fun r w'=>r=.returned (Z9 (YC (c.getD 0 0) (c.getD 1 0) E e))/\UL g0 B S c (u+1) (insL (c.getD 0 0) (c.getD 1 0) E e) V2 w':=
 (h.below hb).rep.insert e d he hI ho h.so (h.below hb).bz hu
theorem yZ.IX (h:yZ B w g0 S c u E V){e:En}{d:Ad}(hw:Ws V2 V.heap.size e d):∀ k,EB e d k->¬ S k:=fun k hk hs=>by
 have:=hw.ge k hk;have:=h.rep.inn k hs;omega
theorem yZ.start {gp:Nat}(hn:YQ V gp S c u E)(hl:∀ k,S k->w.heap.size<=k)(hb:Below w.heap.size w V):yZ w.heap.size w gp S c u E V:=⟨hn,hl,hb.size,hb,Nat.le_refl _⟩
end
theorem ak7 {c:List Int}(hc:Cg.VU c)(hv:Cg.Ve c=0)(w:World):Calls Tryz.prog 36 #[.agg (Zu c)] w fun e w'=>e=.returned (.agg (Y0 c none 0 0))/\Below w.heap.size w w':=by
 obtain⟨vv,hvv⟩:=ZR (Cg.Ve c);have HV:Hid (∀ U,Calls Tryz.prog 69 #[.agg (Zu c)] U fun e w'=>e=.returned (Z9 vv)/\Below U.heap.size U w'):=Z8 fun U=>by
  have:=Cg.AQ hc.2.1 U;rw[hvv] at this;exact this
 rw[hvv] at hv;have HVV:Hid (¬ vv≠0):=Z8 (fun h=>h hv);clear hc hv hvv;go_enter Tryz.func36,Tryz.ntmps36;go_upto_region 1 with fail;change Code.wp _ _ _ _ ((w.alloc (.cells (Zu c) 25)).alloc (.cells (#[Z9 0,Z9 0,Z9 0,Z9 0,Z9 0,Z9 0,ZY,Z9 0,Z9 0,ZV 0,Z9 0,Z9 0,.slice none 0 0]) 31));have Zd:Below w.heap.size w (w.alloc (.cells (Zu c) 25)):=(Below.refl _ w).alloc (Nat.le_refl _) _;have hX1:Bx (w.alloc (.cells (Zu c) 25)) w.heap.size (Zu c) 25:=heap_alloc_last w _;have Yg:(w.alloc (.cells (Zu c) 25)).heap.size=w.heap.size+1:=by simp
 generalize w.alloc (.cells (Zu c) 25)=YP at *
 have XE:Below w.heap.size w (YP.alloc (.cells (#[Z9 0,Z9 0,Z9 0,Z9 0,Z9 0,Z9 0,ZY,Z9 0,Z9 0,ZV 0,Z9 0,Z9 0,.slice none 0 0]) 31)):=Zd.alloc Zd.size _;have hX1:=hX1.below hX1.lt ((Below.refl _ YP).alloc (Nat.le_refl _) (.cells (#[Z9 0,Z9 0,Z9 0,Z9 0,Z9 0,Z9 0,ZY,Z9 0,Z9 0,ZV 0,Z9 0,Z9 0,.slice none 0 0]) 31));have hX2:Bx (YP.alloc (.cells (#[Z9 0,Z9 0,Z9 0,Z9 0,Z9 0,Z9 0,ZY,Z9 0,Z9 0,ZV 0,Z9 0,Z9 0,.slice none 0 0]) 31)) YP.heap.size (#[Z9 0,Z9 0,Z9 0,Z9 0,Z9 0,Z9 0,ZY,Z9 0,Z9 0,ZV 0,Z9 0,Z9 0,.slice none 0 0]) 31:=heap_alloc_last YP _;have Vg:(YP.alloc (.cells (#[Z9 0,Z9 0,Z9 0,Z9 0,Z9 0,Z9 0,ZY,Z9 0,Z9 0,ZV 0,Z9 0,Z9 0,.slice none 0 0]) 31)).heap.size=YP.heap.size+1:=by simp
 generalize YP.alloc (.cells (#[Z9 0,Z9 0,Z9 0,Z9 0,Z9 0,Z9 0,ZY,Z9 0,Z9 0,ZV 0,Z9 0,Z9 0,.slice none 0 0]) 31)=W at *
 obtain⟨g1,hg1⟩:=ZR w.heap.size;rw[hg1] at hX1;obtain⟨g2,hg2⟩:=ZR YP.heap.size;rw[hg2] at hX2;have hq1:w.heap.size+1=g2:=by omega
 have Xm:Hid (g1=w.heap.size+0/\g2=w.heap.size+1/\W.heap.size=w.heap.size+2):=Z8 ⟨by omega,by omega,by omega⟩;have HB:=Z8 XE;simp only[hg1];try simp only[show g1+1=g2 by omega]
 clear Zd Yg hg1 XE Vg hg2 hq1;refine wl<|ZC rfl ⟨g1,0,none⟩ (.agg (Zu c)) (Xd hX1)<|YD (Z9 vv) (fun w'=>Below W.heap.size W w') (HV.out W) (fun V1 hV1=>?_);refine Zg (SL rfl vv 0 (decide_eq_false HVV.out))<|wn ?_;simp only[pu];have HB1:=Z8 (HB.out.trans (hV1.mono HB.out.size));have hX1:=hX1.below hX1.lt hV1;have hX2:=hX2.below hX2.lt hV1;clear hV1;obtain⟨V5,hst5,hY2,VN⟩:=st_all (cs':=Y0 c none 0 0) (ty:=31) hX2 rfl (by kernel_rfl) (by kernel_rfl);have HE:Hid (Below w.heap.size w V5):=Z8 (HB1.out.trans (VN.1.mono (by have:=Xm.out; omega)));clear VN hX2;go_upto_region 3 with fail;refine wl<|ZC rfl ⟨g1,0,none⟩ (.agg (Zu c)) (Xd hX1)<|ZQ (.agg (Y0 c none 0 0))<|Yb rfl (hst5)<|wn ?_;simp only[pu];go_wp2_with fail;exact bodyPost_ret (YV rfl (by kernel_rfl) (YA hY2)) rfl ⟨rfl,HE.out⟩
theorem ak8 {c:List Int}(hc:Cg.VU c)(hv:Cg.Ve c≠0)(w:World):Calls Tryz.prog 36 #[.agg (Zu c)] w fun e w'=>e=.returned (.agg (Y0 Cg.Ru none 0 0))/\Below w.heap.size w w':=by
 obtain⟨vv,hvv⟩:=ZR (Cg.Ve c);have HV:Hid (∀ U,Calls Tryz.prog 69 #[.agg (Zu c)] U fun e w'=>e=.returned (Z9 vv)/\Below U.heap.size U w'):=Z8 fun U=>by
  have:=Cg.AQ hc.2.1 U;rw[hvv] at this;exact this
 rw[hvv] at hv;have HVV:Hid (vv≠0):=Z8 hv;have HD:Hid (∀ U,Calls Tryz.prog 32 #[] U fun e w'=>e=.returned (.agg (Zu Cg.Ru))/\Below U.heap.size U w'):=Z8 fun U=>Cg.yY U;obtain⟨df,hdf⟩:=ZR Cg.Ru;rw[hdf] at HD ⊢;clear hc hv hvv hdf;go_enter Tryz.func36,Tryz.ntmps36;go_upto_region 1 with fail;change Code.wp _ _ _ _ ((w.alloc (.cells (Zu c) 25)).alloc (.cells (#[Z9 0,Z9 0,Z9 0,Z9 0,Z9 0,Z9 0,ZY,Z9 0,Z9 0,ZV 0,Z9 0,Z9 0,.slice none 0 0]) 31));have Zd:Below w.heap.size w (w.alloc (.cells (Zu c) 25)):=(Below.refl _ w).alloc (Nat.le_refl _) _;have hX1:Bx (w.alloc (.cells (Zu c) 25)) w.heap.size (Zu c) 25:=heap_alloc_last w _;have Yg:(w.alloc (.cells (Zu c) 25)).heap.size=w.heap.size+1:=by simp
 generalize w.alloc (.cells (Zu c) 25)=YP at *
 have XE:Below w.heap.size w (YP.alloc (.cells (#[Z9 0,Z9 0,Z9 0,Z9 0,Z9 0,Z9 0,ZY,Z9 0,Z9 0,ZV 0,Z9 0,Z9 0,.slice none 0 0]) 31)):=Zd.alloc Zd.size _;have hX1:=hX1.below hX1.lt ((Below.refl _ YP).alloc (Nat.le_refl _) (.cells (#[Z9 0,Z9 0,Z9 0,Z9 0,Z9 0,Z9 0,ZY,Z9 0,Z9 0,ZV 0,Z9 0,Z9 0,.slice none 0 0]) 31));have hX2:Bx (YP.alloc (.cells (#[Z9 0,Z9 0,Z9 0,Z9 0,Z9 0,Z9 0,ZY,Z9 0,Z9 0,ZV 0,Z9 0,Z9 0,.slice none 0 0]) 31)) YP.heap.size (#[Z9 0,Z9 0,Z9 0,Z9 0,Z9 0,Z9 0,ZY,Z9 0,Z9 0,ZV 0,Z9 0,Z9 0,.slice none 0 0]) 31:=heap_alloc_last YP _;have Vg:(YP.alloc (.cells (#[Z9 0,Z9 0,Z9 0,Z9 0,Z9 0,Z9 0,ZY,Z9 0,Z9 0,ZV 0,Z9 0,Z9 0,.slice none 0 0]) 31)).heap.size=YP.heap.size+1:=by simp
 generalize YP.alloc (.cells (#[Z9 0,Z9 0,Z9 0,Z9 0,Z9 0,Z9 0,ZY,Z9 0,Z9 0,ZV 0,Z9 0,Z9 0,.slice none 0 0]) 31)=W at *
 obtain⟨g1,hg1⟩:=ZR w.heap.size;rw[hg1] at hX1;obtain⟨g2,hg2⟩:=ZR YP.heap.size;rw[hg2] at hX2;have hq1:w.heap.size+1=g2:=by omega
 have Xm:Hid (g1=w.heap.size+0/\g2=w.heap.size+1/\W.heap.size=w.heap.size+2):=Z8 ⟨by omega,by omega,by omega⟩;have HB:=Z8 XE;simp only[hg1];try simp only[show g1+1=g2 by omega]
 clear Zd Yg hg1 XE Vg hg2 hq1;refine wl<|ZC rfl ⟨g1,0,none⟩ (.agg (Zu c)) (Xd hX1)<|YD (Z9 vv) (fun w'=>Below W.heap.size W w') (HV.out W) (fun V1 hV1=>?_);refine Zg (SL rfl vv 0 (decide_eq_true HVV.out))<|wn ?_;simp only[pu];have HB1:=Z8 (HB.out.trans (hV1.mono HB.out.size));have hX1:=hX1.below hX1.lt hV1;have hX2:=hX2.below hX2.lt hV1;clear hV1;go_upto_region 2 with fail;refine wl<|YD (.agg (Zu df)) (fun w'=>Below V1.heap.size V1 w') (HD.out V1) (fun V2 hV2=>?_);obtain⟨V3,hst3,gI,Ya⟩:=st_all (cs':=Zu df) (ty:=25) (hX1.below hX1.lt hV2) rfl (by kernel_rfl) (by kernel_rfl);refine Yb rfl (hst3)<|wn ?_;have hX2:=(hX2.below hX2.lt hV2).but Ya (by have:=Xm.out; omega);have hX1:=gI;have HB1:Hid (Below w.heap.size w V3):=Z8 ((HB1.out.trans (hV2.mono HB1.out.size)).trans (Ya.1.mono (by have:=Xm.out; omega)));clear hV2 Ya hst3 gI;obtain⟨V5,hst5,hY2,VN⟩:=st_all (cs':=Y0 df none 0 0) (ty:=31) hX2 rfl (by kernel_rfl) (by kernel_rfl);have HE:Hid (Below w.heap.size w V5):=Z8 (HB1.out.trans (VN.1.mono (by have:=Xm.out; omega)));clear VN hX2;go_upto_region 3 with fail;refine wl<|ZC rfl ⟨g1,0,none⟩ (.agg (Zu df)) (Xd hX1)<|ZQ (.agg (Y0 df none 0 0))<|Yb rfl (hst5)<|wn ?_;simp only[pu];go_wp2_with fail;exact bodyPost_ret (YV rfl (by kernel_rfl) (YA hY2)) rfl ⟨rfl,HE.out⟩
theorem zh {c:List Int}(hc:Cg.VU c)(w:World):Calls Tryz.prog 36 #[.agg (Zu c)] w fun e w'=>e=.returned (.agg (Y0 (Gt c) none 0 0))/\Below w.heap.size w w':=by
 unfold Gt;by_cases hv:Cg.Ve c=0
 ·rw[if_pos hv]; exact ak7 hc hv w
 ·rw[if_neg hv]; exact ak8 hc hv w
theorem bg (x:Int)(V:World):(Instr.buildSlice 50 1 #[(0,.int .u8 x)]).run Tryz.prog V=.ok (.slice (some ⟨V.heap.size,0,none⟩) 1 1) (V.alloc (.cells #[.int .u8 x] 5)):=by
 obtain⟨i0,hi,hz0,hz1,hz2⟩:=info_parts info5;refine run_buildSlice V 50 5 1 _ #[.int .u8 x] i0 _ Tryz.underlying50 hi hz0 (by rw[hz1]; omega) (by rw[hz1]; omega) ?_;rw[hz1];kernel_rfl
def wF (n:Nat)(s:ByteArray)(q p:Int):En:=⟨fun i=>if i=0 then (n:Int) else 0,[(n:Int)],s,q,0,p,0,0,n,[]⟩
theorem AU {n:Nat}{s:ByteArray}{q p:Int}(hq:0<=q/\q<=100)(hs:s.size<=1000):LZ (wF n s q p):=⟨⟨by show 1<=60000; omega,by show 0<=60000; omega⟩,⟨hq.1,by show q<=_; omega⟩,⟨by show _<=(0:Int); omega,by show(0:Int)<=_; omega⟩,⟨by show _<=(0:Int); omega,by show(0:Int)<=_; omega⟩,by show s.size<=1000000; omega⟩
theorem MX (n:Nat)(hn:n<=255)(s:ByteArray)(q p:Int)(w:World):Calls Tryz.prog 34 #[Z9 n,.string s,ZV q,ZV p] w fun e w'=>∃ d,e=.returned (.agg (ZO (wF n s q p) d))/\Ws w' w.heap.size (wF n s q p) d/\Below w.heap.size w w':=by
 go_enter Tryz.func34,Tryz.ntmps34;go_upto_region 1 with fail;change Code.wp _ _ _ _ (w.alloc (.cells (ZO Zp YE) 52));have Zd:Below w.heap.size w (w.alloc (.cells (ZO Zp YE) 52)):=(Below.refl _ w).alloc (Nat.le_refl _) _;have xq:Bx (w.alloc (.cells (ZO Zp YE) 52)) w.heap.size (ZO Zp YE) 52:=heap_alloc_last w _;have Yg:(w.alloc (.cells (ZO Zp YE) 52)).heap.size=w.heap.size+1:=by simp
 generalize w.alloc (.cells (ZO Zp YE) 52)=W at *
 obtain⟨g8,AZ⟩:=ZR w.heap.size;rw[AZ] at xq;have Xm:Hid (g8=w.heap.size+0/\W.heap.size=w.heap.size+1):=Z8 ⟨by omega,by omega⟩;have HB:=Z8 Zd;simp only[AZ];clear Zd Yg AZ;have MW:Below W.heap.size W (W.alloc (.cells #[.int .u8 n] 5)):=(Below.refl _ W).alloc (Nat.le_refl _) _;have hbd:=bg n W;have yX:Bx (W.alloc (.cells #[.int .u8 n] 5)) W.heap.size #[.int .u8 n] 5:=heap_alloc_last W _;obtain⟨V2,hst2,mW,WZ⟩:=st_all (cs':=ZO (wF n s q p) ⟨some ⟨W.heap.size,0,none⟩,1,none,0⟩) (ty:=52) (xq.below xq.lt MW) rfl (YW _ _) (by kernel_rfl);have hrow:(W.alloc (.cells #[.int .u8 n] 5)).ownsRow w.heap.size 5 1 (.slice (some ⟨W.heap.size,0,none⟩) 1 1) 1 (Xk [(n:Int)]):=⟨rfl,.inr ⟨W.heap.size,1,#[.int .u8 n],rfl,HB.out.size,yX,Nat.le_refl _,by unfold maxLen; omega,rfl,rfl⟩⟩;have HE:Hid (Ws V2 w.heap.size (wF n s q p) ⟨some ⟨W.heap.size,0,none⟩,1,none,0⟩/\Below w.heap.size w V2):=Z8 ⟨⟨YG hrow WZ fun y hy=>by cases hy; have:=Xm.out; show W.heap.size≠g8; omega,World.ownsRow_nil _ _ _ _⟩,(HB.out.trans (MW.mono HB.out.size)).trans (WZ.1.mono (by have:=Xm.out; omega))⟩;clear xq yX hrow WZ MW;refine wl<|ZQ (Z9 n)<|Za (.int .u8 n) (IV rfl n hn (by kernel_rfl) _)<|ZB (.agg (Zv (wF n s q p).k)) (Z9 n)<|Za (.int .u8 n) (IV rfl n hn (by kernel_rfl) _) ?_;refine Zm (by kernel_rfl) (some 14) rfl 50 1 #[(0,.tmp 13)] rfl #[(0,.int .u8 n)] (by kernel_rfl) (.slice (some ⟨W.heap.size,0,none⟩) 1 1) _ (hbd) ?_;refine Gg (.string s) (ZV q) (ZV p) (Z9 n) (.agg (ZO (wF n s q p) ⟨some ⟨W.heap.size,0,none⟩,1,none,0⟩))<|Yb rfl (hst2)<|wn ?_;simp only[pu];clear hst2 hbd;go_wp2_with fail;exact bodyPost_ret (YV rfl (by kernel_rfl) (ZE (ZU mW))) rfl ⟨_,rfl,HE.out⟩
def kC:List Int:=[2,10,5,0,1,0,0,10,-1,0,0,1]
def Oa:En:=wF 1 ⟨#[97]⟩ 1 5
def kE2:En:=wF 2 ⟨#[97]⟩ 1 5
def IZ:En:=wF 3 ⟨#[97]⟩ 0 9
def kE4:En:=wF 4 ⟨#[98]⟩ 0 9
theorem ak3:Cg.VU kC:=by refine⟨rfl,.inl rfl,by decide,by decide,?_⟩; decide
theorem as9:Gt kC=kC:=if_pos (by decide)
theorem kI1:YC 2 10 [] Oa=0:=by decide +kernel
theorem kI2:YC 2 10 [Oa] kE2=9:=by decide +kernel
theorem kI3:YC 2 10 [Oa] IZ=0:=by decide +kernel
theorem kI4:YC 2 10 [Oa,IZ] kE4=24:=by decide +kernel
theorem kL1:insL 2 10 [] Oa=[Oa]:=QG kI1
theorem kL2:insL 2 10 [Oa] kE2=[Oa]:=IY (by rw[kI2]; decide)
theorem kL3:insL 2 10 [Oa] IZ=[Oa,IZ]:=QG kI3
theorem kL4:insL 2 10 [Oa,IZ] kE4=[Oa,IZ]:=IY (by rw[kI4]; decide)
theorem kSo:sortL [Oa,IZ]=[IZ,Oa]:=by kernel_rfl
theorem kSe:Vt ⟨#[97]⟩ [Oa,IZ]=[IZ,Oa]:=by kernel_rfl
theorem kG2:(Yj (XI kC 2 0) [Oa,IZ]).length=2:=by kernel_rfl
theorem kG1:(Yj (XI kC 1 0) [Oa,IZ]).length=0:=by kernel_rfl
theorem wE {w V:World}{v:Value}{e1 e2:En}(h:Rx w [e1,e2] v V):∃ b off c d1,v=.slice (some ⟨b,off,none⟩) 2 c/\V.rangeAt b (off+0*41) (Yc e1 d1)/\b<V.heap.size/\w.heap.size<=b:=by
 obtain⟨X,h1,h2,h3,h4⟩:=h;obtain⟨a,c,rfl,hcs,-⟩:=h2.cs;match X,h1 with
 | [x,y],h1=>
  simp only[lE,List.map_cons,List.map_nil,List.cons.injEq,and_true] at h1;obtain⟨rfl,rfl⟩:=h1;obtain⟨b,off,rfl,hb,hr⟩:=Yf Nw Ur (by omega) Yr hcs (i:=0) (by simp);exact⟨b,off,c,x.2,rfl,hr,hb,(h2.lt b rfl).1⟩
theorem Xl (w:World):Calls Tryz.prog 9 #[] w fun e w'=>e=.returned ZX/\Below w.heap.size w w':=by
 have CN:=I7 ak3 w;rw[as9] at CN;go_enter Tryz.func9,Tryz.ntmps9;go_upto_region 1 with fail;refine wl<|ZQ (.agg (Zu kC))<|XQ (fun v w'=>∃ g S,v=Z7 g 0/\YQ w' g S kC 0 []/\(∀ k,S k->w.heap.size<=k)/\Below w.heap.size w w') (CN.mono fun e9 w' z=>by obtain⟨g,S,h1,h2,h3,h4⟩:=z; exact⟨_,h1,g,S,rfl,h2,h3,h4⟩) (fun vv V0 hq=>?_);obtain⟨g0,S0,rfl,hr0,hl0,hb0⟩:=hq;have gJ:=Z8 (yZ.start hr0 hl0 hb0);clear hr0 hl0 hb0 CN;refine ZQ (Z7 g0 0)<|wn ?_;simp only[pu];go_upto_region 2 with fail;refine wl<|ZB (Z7 g0 0) ZY<|wn ?_;simp only[pu];go_upto_region 4 with fail;refine wl<|ZQ (Z7 g0 0)<|XQ (fun v w'=>∃ d,v=.agg (ZO Oa d)/\Ws w' V0.heap.size Oa d/\Below V0.heap.size V0 w') ((MX 1 (by omega) ⟨#[97]⟩ 1 5 V0).mono fun e9 w' z=>by obtain⟨d,h1,h2,h3⟩:=z; exact⟨_,h1,d,rfl,h2,h3⟩) (fun vv V1 hq=>?_);obtain⟨d0,rfl,hw0,hb0⟩:=hq;have CI:=(gJ.out).ins (d:=d0) (show LZ Oa from AU (by omega) (by decide)) hw0.i ((gJ.out).IX hw0) hb0 (by omega);rw[show kC.getD 0 0=2 from rfl,show kC.getD 1 0=10 from rfl,kI1,kL1] at CI;refine YD (Z9 0) (fun w'=>UL g0 w.heap.size S0 kC 1 [Oa] V1 w') (CI) (fun V2 hq=>?_);obtain⟨S1,hs9,-,-⟩:=((gJ.out).below hb0).upd hq;have oG:=Z8 hs9;clear hs9 hq hw0 hb0 CI gJ;refine ZQ (Z7 g0 0)<|XQ (fun v w'=>∃ d,v=.agg (ZO kE2 d)/\Ws w' V2.heap.size kE2 d/\Below V2.heap.size V2 w') ((MX 2 (by omega) ⟨#[97]⟩ 1 5 V2).mono fun e9 w' z=>by obtain⟨d,h1,h2,h3⟩:=z; exact⟨_,h1,d,rfl,h2,h3⟩) (fun vv V3 hq=>?_);obtain⟨d1,rfl,hw1,hb1⟩:=hq;have CI:=(oG.out).ins (d:=d1) (show LZ kE2 from AU (by omega) (by decide)) hw1.i ((oG.out).IX hw1) hb1 (by omega);rw[show kC.getD 0 0=2 from rfl,show kC.getD 1 0=10 from rfl,kI2,kL2] at CI;refine YD (Z9 9) (fun w'=>UL g0 w.heap.size S1 kC 2 [Oa] V3 w') (CI) (fun V4 hq=>?_);obtain⟨S2,hs9,-,-⟩:=((oG.out).below hb1).upd hq;have HS2:=Z8 hs9;clear hs9 hq hw1 hb1 CI oG;refine ZB (Z9 0) (Z9 9)<|wn ?_;simp only[pu];go_upto_region 5 with fail;refine wl<|ZQ (Z7 g0 0)<|XQ (fun v w'=>∃ d,v=.agg (ZO IZ d)/\Ws w' V4.heap.size IZ d/\Below V4.heap.size V4 w') ((MX 3 (by omega) ⟨#[97]⟩ 0 9 V4).mono fun e9 w' z=>by obtain⟨d,h1,h2,h3⟩:=z; exact⟨_,h1,d,rfl,h2,h3⟩) (fun vv V5 hq=>?_);obtain⟨d2,rfl,hw2,hb2⟩:=hq;have CI:=(HS2.out).ins (d:=d2) (show LZ IZ from AU (by omega) (by decide)) hw2.i ((HS2.out).IX hw2) hb2 (by omega);rw[show kC.getD 0 0=2 from rfl,show kC.getD 1 0=10 from rfl,kI3,kL3] at CI;refine YD (Z9 0) (fun w'=>UL g0 w.heap.size S2 kC 3 [Oa,IZ] V5 w') (CI) (fun V6 hq=>?_);obtain⟨S3,hs9,-,-⟩:=((HS2.out).below hb2).upd hq;have oD:=Z8 hs9;clear hs9 hq hw2 hb2 CI HS2;refine ZQ (Z7 g0 0)<|XQ (fun v w'=>∃ d,v=.agg (ZO kE4 d)/\Ws w' V6.heap.size kE4 d/\Below V6.heap.size V6 w') ((MX 4 (by omega) ⟨#[98]⟩ 0 9 V6).mono fun e9 w' z=>by obtain⟨d,h1,h2,h3⟩:=z; exact⟨_,h1,d,rfl,h2,h3⟩) (fun vv V7 hq=>?_);obtain⟨d3,rfl,hw3,hb3⟩:=hq;have CI:=(oD.out).ins (d:=d3) (show LZ kE4 from AU (by omega) (by decide)) hw3.i ((oD.out).IX hw3) hb3 (by omega);rw[show kC.getD 0 0=2 from rfl,show kC.getD 1 0=10 from rfl,kI4,kL4] at CI;refine YD (Z9 24) (fun w'=>UL g0 w.heap.size S3 kC 4 [Oa,IZ] V7 w') (CI) (fun V8 hq=>?_);obtain⟨S4,hs9,-,-⟩:=((oD.out).below hb3).upd hq;have mY:=Z8 hs9;clear hs9 hq hw3 hb3 CI oD;refine ZB (Z9 0) (Z9 24)<|wn ?_;simp only[pu];have C1:=mY.out.rep.sorted;rw[kSo] at C1;go_upto_region 6 with fail;refine wl<|ZQ (Z7 g0 0)<|XQ (fun v w'=>Rx V8 [IZ,Oa] v w') (C1.mono fun e9 w' z=>z) (fun vv V9 hq=>?_);have ak4:=hq.choose_spec.2.2.2;obtain⟨b1,o1,c1,e1,rfl,hrg1,-,-⟩:=wE hq;clear hq;have mX:=Z8 (mY.out.below ak4);have C2:=mX.out.rep.sender ⟨#[97]⟩;rw[kSe] at C2;clear C1;refine ZQ (Z7 g0 0)<|XQ (fun v w'=>Rx V9 [IZ,Oa] v w') (C2.mono fun e9 w' z=>z) (fun vv V10 hq=>?_);have bn:=hq.choose_spec.2.2.2;obtain⟨b2,o2,c2,e2,rfl,hrg2,-,-⟩:=wE hq;clear hq;have oC:=Z8 (mX.out.below bn);have hrg1:=ZF hrg1 bn;have hbx:=oC.out.bel;clear C2 ak4 bn mX mY;refine ZB (.slice (some ⟨b1,o1,none⟩) 2 c1) (.slice (some ⟨b2,o2,none⟩) 2 c2)<|wn ?_;simp only[pu];have C3:=oC.out.rep.expired (ht:=2) (tm:=0) ⟨by omega,by omega⟩ ⟨by omega,by omega⟩;go_upto_region 7 with fail;refine wl<|ZQ (Z9 0)<|Yd ZX (IW rfl 0 0 (by decide))<|ZB ZX (Z9 9)<|Yd ZX (IW rfl 9 9 (by decide))<|YX ZX ZX (Z9 0) <|
  Yd ZX (IW rfl 0 0 (by decide))<|YX ZX ZX (Z9 24)<|Yd ZX (IW rfl 24 24 (by decide))<|Qc ZX ZX (.slice (some ⟨b1,o1,none⟩) 2 c1) (Z9 2) <|
  Yd ZX (XY rfl 2 2 (by decide))<|YX ZX ZX (.slice (some ⟨b1,o1,none⟩) 2 c1)<|Za (Z7 b1 (o1+0*41)) (Zo b1 o1 2 c1 0 (by omega) _ _ _ rfl (by kernel_rfl) (by kernel_rfl)) <|
  ZQ (Z7 b1 (o1+0*41+39))<|ZC rfl ⟨b1,o1+0*41+39,none⟩ (Z9 3) (ZN hrg1 (j:=39) rfl (by kernel_rfl))<|Yd ZX (XY rfl 3 3 (by decide)) <|
  Qc ZX ZX (.slice (some ⟨b2,o2,none⟩) 2 c2) (Z9 2)<|Yd ZX (XY rfl 2 2 (by decide))<|YX ZX ZX (.slice (some ⟨b2,o2,none⟩) 2 c2) <|
  Za (Z7 b2 (o2+0*41)) (Zo b2 o2 2 c2 0 (by omega) _ _ _ rfl (by kernel_rfl) (by kernel_rfl))<|ZQ (Z7 b2 (o2+0*41+34))<|ZC rfl ⟨b2,o2+0*41+34,none⟩ (ZV 0) (ZN hrg2 (j:=34) rfl (by kernel_rfl)) <|
  Yd ZX (Uo rfl 0 0 (by decide))<|YX ZX ZX (Z7 g0 0) <|
  XQ (fun v w'=>∃ a c,v=.slice a 2 c/\Below V10.heap.size V10 w') (C3.mono fun e9 w' z=>by obtain⟨v,h1,h2,h3⟩:=z; obtain⟨a,c,rfl,-,-⟩:=Yy h2; exact⟨_,by rw[h1,kG2],a,c,rfl,h3⟩) (fun vv V11 hq=>?_)
 obtain⟨ka1,kc1,rfl,ak5⟩:=hq;have FY:=Z8 (oC.out.below ak5);have C4:=FY.out.rep.expired (ht:=1) (tm:=0) ⟨by omega,by omega⟩ ⟨by omega,by omega⟩;clear C3 ak5 oC hrg1 hrg2 hbx;refine ZQ (Z9 2)<|Yd ZX (XY rfl 2 2 (by decide))<|YX ZX ZX (Z7 g0 0) <|
  XQ (fun v w'=>∃ a c,v=.slice a 0 c/\Below V11.heap.size V11 w') (C4.mono fun e9 w' z=>by obtain⟨v,h1,h2,h3⟩:=z; obtain⟨a,c,rfl,-,-⟩:=Yy h2; exact⟨_,by rw[h1,kG1],a,c,rfl,h3⟩) (fun vv V12 hq=>?_)
 obtain⟨ka2,kc2,rfl,ak6⟩:=hq;have DZ:=Z8 (FY.out.below ak6);have C5:=DZ.out.rep.ni;have C6:=DZ.out.rep.bF;clear C4 ak6 FY;refine ZQ (Z9 0)<|Yd ZX (XY rfl 0 0 (by decide))<|YX ZX ZX (Z7 g0 0)<|YD (Z9 2) (fun w'=>V12=w') (C5) (fun V9 XZ=>?_);subst XZ;refine Yd ZX (XY rfl 2 2 (by decide))<|YX ZX ZX (Z7 g0 0)<|YD (Z9 2) (fun w'=>V12=w') (C6) (fun V9 XZ=>?_);subst XZ;refine Yd ZX (XY rfl 2 2 (by decide))<|ZB ZX ZX<|wn ?_;simp only[pu];have HE:=Z8 DZ.out.bel;clear C5 C6 DZ;go_wp2_with fail;go_ret;exact⟨rfl,HE.out⟩
end Go.Proofs.YtnelmomagdcmnaaGreat
namespace Go.Proofs.YtnelmomagdcmnaaGreat
open Go.RowKit
structure EX (S:Nat->Prop)(gn g10:Nat)(E:En)(d:Ad)(V:World):Prop where
 i:Vh V E d
 o:∀ k,EB E d k->¬ S k/\gn<k/\k≠g10
structure XO (S:Nat->Prop)(gn g10:Nat)(am:Option Addr)(cp:Nat)(X:List (En×Ad))(V:World):Prop where
 xr:Xr V am X
 xc:X.length<=cp
 xo:∀ k,xA am X k->¬ S k/\gn<k/\k≠g10
structure BO (S:Nat->Prop)(gn g10 q:Nat)(cs:Array Value)(t:Nat)(V:World):Prop where
 bx:Bx V q cs t
 ns:¬ S q
 gq:gn<q
 nq:q≠g10
structure PS (w:World)(gn:Nat)(a:Option Addr)(c:Nat)(L:List Int)(B g0:Nat)(S:Nat->Prop)(cf:List Int)(u:Nat)(E:List En)(am:Option Addr)(cp:Nat)(X:List (En×Ad))(g10 N:Nat)(V:World):Prop where
 bel:Below w.heap.size w V
 wn:w.heap.size<=gn
 nB:gn<B
 bz:B<=V.heap.size
 nm:Nm V gn a c L N
 rep:YQ V g0 S cf u E
 so:∀ k,S k->B<=k
 x:XO S gn g10 am cp X V
 b10:Bx V g10 (Y0 cf am X.length cp) 31
 n10:¬ S g10
 gl:gn<g10
section
variable {w : World} {gn : Nat} {a : Option Addr} {c : Nat} {L : List Int} {B g0 q t : Nat} {S S2 : Nat -> Prop} {cf : List Int} {u u2 : Nat} {E E2 : List En} {am a2 : Option Addr} {cp c2 : Nat} {X Y : List (En × Ad)} {g10 N N2 : Nat} {V V2 : World} {e : En} {d : Ad} {cs : Array Value}
theorem EX.num (h:EX S gn g10 e d V)(hb:But gn V V2):EX S gn g10 e d V2:=⟨h.i.same fun k hk=>hb.2 k (h.i.lt k hk) (by have:=(h.o k hk).2.1; omega),h.o⟩
theorem EX.below (h:EX S gn g10 e d V)(hb:Below V.heap.size V V2):EX S gn g10 e d V2:=⟨h.i.below hb,h.o⟩
theorem EX.but (h:EX S gn g10 e d V)(hb:But q V V2)(hn:∀ k,EB e d k->k≠q):EX S gn g10 e d V2:=⟨h.i.same fun k hk=>hb.2 k (h.i.lt k hk) (hn k hk),h.o⟩
theorem EX.key (h:EX S gn g10 e d V)(k:Nat->Int):EX S gn g10 { e with k:=k } d V:=⟨⟨h.i.r,h.i.p,h.i.rl,h.i.pl⟩,h.o⟩
theorem XO.num (h:XO S gn g10 am cp X V)(hb:But gn V V2):XO S gn g10 am cp X V2:=⟨h.xr.same fun k hk=>hb.2 k (h.xr.lt k hk) (by have:=(h.xo k hk).2.1; omega),h.xc,h.xo⟩
theorem XO.below (h:XO S gn g10 am cp X V)(hb:Below V.heap.size V V2):XO S gn g10 am cp X V2:=⟨h.xr.below hb,h.xc,h.xo⟩
theorem XO.prog (h:XO S gn g10 am cp X V)(hk:∀ k,k<V.heap.size->¬ S k->¬ S2 k)(hb:ZL B S V V2):XO S2 gn g10 am cp X V2:=⟨h.xr.same fun k q=>hb.2 k (h.xr.lt k q) (h.xo k q).1,h.xc,fun k q=>⟨hk k (h.xr.lt k q) (h.xo k q).1,(h.xo k q).2⟩⟩
theorem XO.but (h:XO S gn g10 am cp X V)(hb:But q V V2)(hn:∀ k,xA am X k->k≠q):XO S gn g10 am cp X V2:=⟨h.xr.same fun k hk=>hb.2 k (h.xr.lt k hk) (hn k hk),h.xc,h.xo⟩
theorem XO.nil:XO S gn g10 none 0 [] V:=⟨Xr.nil _ _,Nat.le_refl _,fun k hk=>by
 rcases hk with⟨h,-⟩ | ⟨i,hi,-⟩
 ·exact absurd rfl h
 ·cases hi⟩
theorem bD {x:En×Ad}(h:x∈X):∃ i,i<X.length/\X.getD i Yr=x:=by
 obtain⟨i,hi,rfl⟩:=List.getElem_of_mem h;exact⟨i,hi,by rw[List.getD_eq_getElem?_getD,List.getElem?_eq_getElem hi]; rfl⟩
theorem gK {i:Nat}(h:i<X.length):X.getD i Yr∈X:=by rw[List.getD_eq_getElem?_getD,List.getElem?_eq_getElem h]; exact List.getElem_mem h
theorem XO.ref (h:XO S gn g10 am cp X V){Q:Value}{r:Ending}(hr:mZ V am X Y cf Q r V2)(hY:∀ y∈Y,y∈X∨y=(e,d))(hx:EX S gn g10 e d V)(hS:∀ k,S k->k<V.heap.size)(hg:gn<V.heap.size)(h10:g10<V.heap.size):∃ a2 c2,r=.returned (.tuple #[.agg (Y0 cf a2 Y.length c2),Q])/\XO S gn g10 a2 c2 Y V2/\Below V.heap.size V V2:=by
 obtain⟨a2,c2,h1,h2,h3,h4,h5⟩:=hr;refine⟨a2,c2,h1,⟨h2,h3,fun k hk=>?_⟩,h5⟩;rcases hk with hk | ⟨i,hi,hk⟩
 ·rcases h4 k hk with h6 | h6
  ·exact h.xo k (.inl h6)
  ·exact⟨fun q=>by have:=hS k q; omega,by omega,by omega⟩
 ·rcases hY _ (gK hi) with h6 | h6
  ·obtain⟨j,hj,e1⟩:=bD h6;exact h.xo k (.inr ⟨j,hj,by rw[e1]; exact hk⟩)
  ·rw[h6] at hk;exact hx.o k hk
theorem rem_in {k:Nat->Int}:∀ y∈Xc X k,y∈X∨y=(e,d):=fun y hy=>by
 unfold Xc at hy;rcases List.mem_append.1 hy with h1 | h1
 ·exact .inl (List.mem_of_mem_take h1)
 ·exact .inl (List.mem_of_mem_drop h1)
theorem bG {mt mb:Int}:∀ y∈Qi mt mb X (e,d),y∈X∨y=(e,d):=fun y hy=>by
 unfold Qi at hy
 split at hy
 ·rcases List.mem_append.1 hy with h1 | h1
  ·exact .inl h1
  ·exact .inr (List.mem_singleton.1 h1)
 ·exact .inl hy
theorem BO.num (h:BO S gn g10 q cs t V)(hb:But gn V V2):BO S gn g10 q cs t V2:={ h with bx:=h.bx.but hb (by have:=h.gq; omega) }
theorem BO.below (h:BO S gn g10 q cs t V)(hb:Below V.heap.size V V2):BO S gn g10 q cs t V2:={ h with bx:=h.bx.below h.bx.lt hb }
theorem BO.prog (h:BO S gn g10 q cs t V)(hk:∀ k,k<V.heap.size->¬ S k->¬ S2 k)(hb:ZL B S V V2):BO S2 gn g10 q cs t V2:={ h with bx:=h.bx.U7 hb h.ns,ns:=hk q h.bx.lt h.ns }
theorem PS.num (h:PS w gn a c L B g0 S cf u E am cp X g10 N V)(hn:Nm V2 gn a c L N2)(hb:But gn V V2):PS w gn a c L B g0 S cf u E am cp X g10 N2 V2:=
 have h1:=h.nB
 {h with bel:=h.bel.trans (hb.1.mono h.wn),bz:=Nat.le_trans h.bz hb.1.size,nm:=hn,rep:=h.rep.same fun k hk=>hb.2 k (h.rep.inn k hk) (by have:=h.so k hk; omega),x:=h.x.num hb,b10:=h.b10.but hb (by have:=h.gl; omega) }
theorem PS.below (h:PS w gn a c L B g0 S cf u E am cp X g10 N V)(hb:Below V.heap.size V V2):PS w gn a c L B g0 S cf u E am cp X g10 N V2:=
 {h with bel:=h.bel.trans (hb.mono h.bel.size),bz:=Nat.le_trans h.bz hb.size,nm:=h.nm.below hb,rep:=h.rep.below hb,x:=h.x.below hb,b10:=h.b10.below h.b10.lt hb }
theorem PS.prog (h:PS w gn a c L B g0 S cf u E am cp X g10 N V)(hu:UL g0 B S cf u2 E2 V V2):∃ S2,PS w gn a c L B g0 S2 cf u2 E2 am cp X g10 N V2/\(∀ k,k<V.heap.size->¬ S k->¬ S2 k)/\ZL B S V V2:=by
 obtain⟨S2,q1,q2,q3⟩:=hu;have h1:=h.wn;have h2:=h.nB;have hk:∀ k,k<V.heap.size->¬ S k->¬ S2 k:=fun k hk hn h4=>(q2 k h4).elim hn (by omega);exact⟨S2,{ h with bel:=h.bel.trans (q3.1.mono (by omega)),bz:=Nat.le_trans h.bz q3.1.size,nm:=h.nm.U7 q3 h.nB,rep:=q1,so:=fun k hk=>(q2 k hk).elim (h.so k) (Nat.le_trans h.bz),x:=h.x.prog hk q3,b10:=h.b10.U7 q3 h.n10,n10:=hk g10 h.b10.lt h.n10 },hk,q3⟩
theorem PS.but (h:PS w gn a c L B g0 S cf u E am cp X g10 N V)(hb:But q V V2)(hs:¬ S q)(hg:gn<q)(h10:q≠g10)(hx:∀ k,xA am X k->k≠q):PS w gn a c L B g0 S cf u E am cp X g10 N V2:=
 have h1:=h.wn
 {h with bel:=h.bel.trans (hb.1.mono (by omega)),bz:=Nat.le_trans h.bz hb.1.size,nm:=h.nm.but hb hg,rep:=h.rep.same fun k hk=>hb.2 k (h.rep.inn k hk) fun e=>hs (e ▸ hk),x:=h.x.but hb hx,b10:=h.b10.but hb (Ne.symm h10) }
theorem PS.put (h:PS w gn a c L B g0 S cf u E am cp X g10 N V)(hy:XO S gn g10 a2 c2 Y V)(hb:But g10 V V2)(hX:Bx V2 g10 (Y0 cf a2 Y.length c2) 31):PS w gn a c L B g0 S cf u E a2 c2 Y g10 N V2:=
 have h1:=h.wn;have h2:=h.gl
 {h with bel:=h.bel.trans (hb.1.mono (by omega)),bz:=Nat.le_trans h.bz hb.1.size,nm:=h.nm.but hb h.gl,rep:=h.rep.same fun k hk=>hb.2 k (h.rep.inn k hk) fun e=>h.n10 (e ▸ hk),x:=hy.but hb fun k hk=>(hy.xo k hk).2.2,b10:=hX }
theorem PS.box (h:PS w gn a c L B g0 S cf u E am cp X g10 N V)(hX:Bx V2 V.heap.size cs t):BO S gn g10 V.heap.size cs t V2:=
 ⟨hX,fun hs=>Nat.lt_irrefl _ (h.rep.inn _ hs),by have:=h.nB; have:=h.bz; omega,by have:=h.b10.lt; omega⟩
theorem PS.fresh (h:PS w gn a c L B g0 S cf u E am cp X g10 N V)(hw:Ws V2 V.heap.size e d):EX S gn g10 e d V2:=⟨hw.i,fun k hk=>by
 have h1:=hw.ge k hk;have h2:=h.nB;have h3:=h.bz;have h4:=h.b10.lt;exact⟨fun q=>by have:=h.rep.inn k q; omega,by omega,by omega⟩⟩
end
theorem DK.g {e:En}(h:DK e)(hr:e.raw.length<=8)(hp:e.Xe.length<=2):LZ e:=by
 obtain⟨h1,h2,h3,h4⟩:=h;refine⟨⟨by omega,by omega⟩,⟨h2.1,by omega⟩,⟨by omega,by omega⟩,⟨by omega,by omega⟩,?_⟩;have:∀ s∈nms,s.size<=1000000:=by decide
 exact this _ h1
structure PlQ (w:World)(g0:Nat)(S:Nat->Prop)(cf:List Int)(u:Nat)(am:Option Addr)(cp:Nat)(X:List (En×Ad))(w':World):Prop where
 rep:YQ w' g0 S cf u (lE X)
 un:u<=250
 so:∀ k,S k->w.heap.size<=k
 xr:Xr w' am X
 xc:X.length<=cp
 xo:∀ k,xA am X k->¬ S k
 ef:∀ e∈lE X,DK e
 bel:Below w.heap.size w w'
def PlO (w:World)(r:Ending)(w':World):Prop:=∃ (g0:Nat) (S:Nat->Prop) (cf:List Int) (u:Nat) (am:Option Addr) (cp:Nat) (X:List (En×Ad)),r=.returned (.tuple #[Z7 g0 0,.agg (Y0 cf am X.length cp),ZX])/\PlQ w g0 S cf u am cp X w'
end Go.Proofs.YtnelmomagdcmnaaGreat
