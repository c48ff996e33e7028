/-
  Texts joined.
-/
import Derived.Test.YtfpnnmeblefkkaaGreatDoorD28
set_option maxRecDepth 100000
set_option maxHeartbeats 8000000
set_option linter.unusedSimpArgs false
set_option linter.unusedVariables false
namespace Go.Proofs.YtfpnnmeblefkkaaGreatDoor.Lg
attribute [local irreducible] wpList wpQuiet
open Mo (YK YR Yl Yw)
open Go.RowKit
def fdR (r:X6):List Zj:=[⟨1,0,IntKind.u64.wrap r.code,[]⟩,⟨2,0,r.Zx,[]⟩]
def Y9 (r:X6):List Int:=msg (fdR r)
def RsW (R:List X6):Prop:=∀ r,r∈R->W64 r.Zx
theorem BG (r:X6):Y9 r=encI 1 0 (IntKind.u64.wrap r.code) []++encI 2 0 r.Zx []:=by
 unfold Y9 fdR msg;simp[Yq]
theorem jv {r:X6}(h:W64 r.Zx):∀ f,f∈fdR r->Vf f:=fun f hf=>by
 have e:f=⟨1,0,IntKind.u64.wrap r.code,[]⟩∨f=⟨2,0,r.Zx,[]⟩:=by simpa [fdR] using hf
 rcases e with rfl | rfl
 ·exact⟨(⟨by decide,by decide,.inl ⟨rfl,rfl⟩⟩:D7 1 0 _ 0),W64.wrap _,(fun x hx=>by cases hx),by simp⟩
 ·exact⟨(⟨by decide,by decide,.inl ⟨rfl,rfl⟩⟩:D7 2 0 _ 0),h,(fun x hx=>by cases hx),by simp⟩
theorem Fb (n k v:Int):(encI n k v []).length<=20:=by
 unfold encI;have h1:=(XZ (8*n+k)).2;have h2:=(XZ (VH k v ([]:List Int).length)).2;simp only[List.length_append,List.length_nil] at *
 omega
theorem MX (r:X6):(Y9 r).length<=40:=by
 rw[BG,List.length_append];have h1:=Fb 1 0 (IntKind.u64.wrap r.code);have h2:=Fb 2 0 r.Zx;omega
theorem wo {r:X6}(h:W64 r.Zx):∀ y,y∈Y9 r->W8 y:=UQ (jv h)
theorem jr {ρ:Operand->Value}{o:Oper}{x:Operand}(ho:o.op=.convert 42 24 x)(a:Int)(hx:ρ x=Z8 a)(w:World):(execOp ρ o).run Tryz.prog w=.ok (.value (Z7 (IntKind.u64.wrap a))) w:=by
 unfold execOp;simp only[ho,hx];go_simp
theorem as3 {A:List Ac}{c p:Int}{L:List Int}(h8:∀ y,y∈L->W8 y):W64 (TF A c p L).2.Zx:=by
 unfold TF
 split
 ·exact Xd
 ·split
  ·exact Xd
  ·rename_i h2
   have hd:W64 (Zc L).1.Zx:=(Gg (t:=(Zc L).1) (fun x hx=>h8 x hx) (by rw[<- Classical.not_not.1 h2])).2.2.1.Zx
   split
   ·exact hd
   ·exact hd
theorem aa6 {A:List Ac}{c p:Int}{Ls:List (List Int)}(h8:∀ L,L∈Ls->∀ y,y∈L->W8 y):RsW (TI A c p Ls Ls.length):=fun r hr=>by
 obtain⟨j,hj,rfl⟩:=List.mem_map.1 hr;rw[List.mem_range] at hj;unfold TB;refine as3 (h8 _ ?_);rw[List.getD_eq_getElem?_getD,List.getElem?_eq_getElem hj];exact List.getElem_mem hj
theorem af2 {w:World}{a:Option Addr}{E:List Bs}(h:AQ w a E)(hn:∀ e,e∈E->e.2.2.length<=300000):RB w a (lsB E):=fun i hi=>by
 have hi2:i<E.length:=by rw[Xe] at hi; exact hi
 obtain⟨b,off,e,hlt,hc⟩:=h.cs i (.slice (Ti E i).1 (Ti E i).2.2.length (Ti E i).2.1) (by unfold EP; rw[KZ hi2,List.getElem?_map,List.getElem?_eq_getElem hi2]; rfl);have hm:=NV hi2;rw[OW hi2];exact⟨b,off,_,_,e,hlt,hc,h.sl _ hm,h.le _ hm,h.b _ hm,hn _ hm⟩
theorem jq (x y:Zj)(V:World):(Instr.buildSlice 78 2 #[(0,.agg (XR x none 0)),(1,.agg (XR y none 0))]).run Tryz.prog V=.ok (.slice (some ⟨V.heap.size,0,none⟩) 2 2) (V.alloc (.cells (XR x none 0++XR y none 0) 77)):=by
 obtain⟨i0,hi,hz0,hz1,hz2⟩:=info_parts info25;refine run_buildSlice V 78 77 2 _ (XR x none 0++XR y none 0) i0 _ Tryz.underlying78 hi hz0 (by rw[hz1]; omega) (by rw[hz1]; omega) ?_;rw[hz1];kernel_rfl
theorem as4 {x y:Zj}(hx:x.bytes=[])(hy:y.bytes=[])(V:World):∃ W,V.alloc (.cells (XR x none 0++XR y none 0) 77)=W/\Below V.heap.size V W/\Fs W (some ⟨V.heap.size,0,none⟩) [(x,.slice none 0 0),(y,.slice none 0 0)]:=by
 have hb:Below V.heap.size V (V.alloc (.cells (XR x none 0++XR y none 0) 77)):=(Below.refl _ V).alloc (Nat.le_refl _) _;refine⟨_,rfl,hb,fun i p hp=>?_⟩;obtain⟨n1,k1,v1,b1⟩:=x;obtain⟨n2,k2,v2,b2⟩:=y;simp only at hx hy;subst hx;subst hy;rcases i with _ | _ | i
 ·simp only[List.getElem?_cons_zero,Option.some.injEq] at hp;subst hp;refine⟨V.heap.size,0,none,0,rfl,rfl,.inl ⟨rfl,rfl,rfl⟩,?_,?_,?_,?_⟩ <;> simp
 ·simp only[List.getElem?_cons_succ,List.getElem?_cons_zero,Option.some.injEq] at hp;subst hp;refine⟨V.heap.size,0,none,0,rfl,rfl,.inl ⟨rfl,rfl,rfl⟩,?_,?_,?_,?_⟩ <;> simp
 ·simp at hp
theorem as5 (r:X6)(w:World)(h:W64 r.Zx):Calls Tryz.prog 27 #[.agg (ZE r)] w fun e w'=>∃ v,e=.returned v/\Own w' w.heap.size v (Y9 r)/\Below w.heap.size w w':=by
 have hb:Below w.heap.size w (w.alloc (.cells (ZE r) 47)):=(Below.refl _ w).alloc (Nat.le_refl _) _;have hx:Bx (w.alloc (.cells (ZE r) 47)) w.heap.size (ZE r) 47:=heap_alloc_last w _;have C1:=N7 none 0 [] 1 0 (IntKind.u64.wrap r.code) none 0 [] (w.alloc (.cells (ZE r) 47)) (by decide) (by decide) (.inl ⟨rfl,rfl,rfl⟩) (.inl ⟨rfl,rfl,rfl⟩) ⟨by decide,by decide,.inl ⟨rfl,rfl⟩⟩ (W64.wrap _);have C2:=fun V (b:Option Addr) (d:Nat) L hL hS=>N7 b d L 2 0 r.Zx none 0 [] V hL (by decide) hS (.inl ⟨rfl,rfl,rfl⟩) ⟨by decide,by decide,.inl ⟨rfl,rfl⟩⟩ h;have HL:=Z9 (BG r);have HLE:=Z9 (Fb 1 0 (IntKind.u64.wrap r.code));obtain⟨cd,snd,sq,Zx,pr⟩:=r;rw[List.nil_append] at C1;generalize Y9 ⟨cd,snd,sq,Zx,pr⟩=LF at *
 simp only at *
 generalize encI 1 0 (IntKind.u64.wrap cd) []=M1 at *
 clear h;go_enter Tryz.func27,Tryz.ntmps27;go_upto_region 1 with fail;change Code.wp _ _ _ _ (w.alloc (.cells #[Z8 cd,.string snd,Z7 sq,Z7 Zx,Z7 pr] 47));generalize w.alloc (.cells #[Z8 cd,.string snd,Z7 sq,Z7 Zx,Z7 pr] 47)=W at *
 obtain⟨g1,hg1⟩:=ZQ w.heap.size;have HB:=Z9 hb;rw[hg1] at hx;simp only[hg1];have HX:=Z9 hx;clear hb hx hg1;refine wl<|ZV (Z5 g1 0)<|ZL rfl ⟨g1,0,none⟩ (Z8 cd) (HX.out.ZR 0)<|YI (Z7 (IntKind.u64.wrap cd)) (jr rfl cd (by kernel_rfl) _) <|
  ZV (.agg #[Z8 1,Z8 0,Z7 (IntKind.u64.wrap cd),.slice none 0 0])<|XI (fun v w'=>∃ u,v=.tuple #[u,Z8 0]/\Own w' W.heap.size u M1/\Below W.heap.size W w') (C1.mono fun e w' q=>by obtain⟨u,h1,h2⟩:=q; exact⟨_,h1,u,rfl,h2⟩) (fun vv V1 hq=>?_)
 obtain⟨u1,rfl,hO1,hb1⟩:=hq;obtain⟨b1,d1,rfl,hs1,hd1⟩:=hO1.sl;have CB:=C2 V1 b1 d1 M1 (by have:=HLE.out; omega) hs1;rw[<- HL.out] at CB;clear C1 C2 hO1 hs1 hd1;refine Rf (.tuple #[.slice b1 M1.length d1,Z8 0]) (.slice b1 M1.length d1) (Z8 0) (.slice b1 M1.length d1) (Z8 0)<|wn ?_;simp only[pu];go_upto_region 2 with fail;refine wl<|ZB (.slice b1 M1.length d1) (Z5 g1 3)<|ZL rfl ⟨g1,3,none⟩ (Z7 Zx) ((HX.out.below HX.out.lt hb1).ZR 3)<|ZV (.agg #[Z8 2,Z8 0,Z7 Zx,.slice none 0 0]) <|
  XI (fun v w'=>∃ u,v=.tuple #[u,Z8 0]/\Own w' V1.heap.size u LF/\Below V1.heap.size V1 w') (CB.mono fun e w' q=>by obtain⟨u,h1,h2⟩:=q; exact⟨_,h1,u,rfl,h2⟩) (fun vv V2 hq=>?_)
 obtain⟨u2,rfl,hO2,hb2⟩:=hq;have HE:=Z9 (And.intro (hO2.base (Nat.le_trans HB.out.size hb1.size)) (HB.out.trans ((hb1.trans (hb2.mono hb1.size)).mono HB.out.size)));clear CB hO2 hb1 hb2;refine U8 (.tuple #[u2,Z8 0]) (u2) (Z8 0) (u2)<|wn ?_;simp only[pu];go_upto_region 3 with fail;refine wl<|ZB (u2) (u2)<|wn ?_;simp only[pu];go_wp2_with fail;go_ret;exact⟨_,rfl,HE.out⟩
theorem Jw (R:List X6)(a:Option Addr)(c:Nat)(w:World)(hG:Glob w)(hR:Cs w a (U9 R))(hW:RsW R)(hn:R.length<=1000):Calls Tryz.prog 18 #[.slice a R.length c] w fun e w'=>e=.returned (.agg (ZF (Zb (R.map Y9))))/\Below w.heap.size w w':=by
 obtain⟨W,yR,hb,hx⟩:=ae7 w;have HR:=Z9 (hR.below hb);have HW:=Z9 hW;have HG:=Z9 hG;have HN:=Z9 hn;have HST:Hid (∀ j,j<R.length->(R.take (j+1)).map Y9=(R.take j).map Y9++[Y9 (qQ R j)]):=Z9 fun j hj=>by rw[List.take_succ_eq_append_getElem hj,List.map_append,NU hj]; rfl
 have HTA:Hid ((R.take R.length).map Y9=R.map Y9):=Z9 (by rw[List.take_length]);have HT0:Hid ((R.take 0).map Y9=[]):=Z9 rfl;have hk:=(Xw (R.map Y9)).1;obtain⟨S,hS⟩:=ZQ (Zb (R.map Y9));have iM:=Z9 hS;rw[hS] at hk ⊢;have HK:=Z9 hk;clear hS hk;clear hR hW hG hn;go_enter Tryz.func18,Tryz.ntmps18;go_upto_region 1 with fail;change Code.wp _ _ _ _ (w.alloc (.cells (ZF (List.replicate 32 0)) 50));rw[yR];obtain⟨g2,hg2⟩:=ZQ w.heap.size;have HB:=Z9 hb;rw[hg2] at hx;simp only[hg2];have HX:=Z9 hx;have HG2:Hid (w.heap.size<=g2):=Z9 (by omega);clear yR hb hx hg2;refine wl<|ZV (.slice none 0 0)<|wn ?_;simp only[pu];go_upto_region 2 with fail;refine wl<|Yr (.slice a R.length c) (Z8 R.length) (Z8 0)<|wn ?_;simp only[pu];go_wp2_with fail;go_loopg [3,5,8] R.length (fun gg s3 s5 s8 wx=>∃ (j:Nat) (v3:Value) (E:List Bs),s3=v3/\s8=Z8 j/\j<=R.length/\E.length=j/\Hid (lsB E=(R.take j).map Y9)/\Hid (OL wx W.heap.size v3 E)/\Hid (Below W.heap.size W wx)/\R.length-j=gg)
 case atStart=>exact⟨0,_,[],rfl,rfl,by omega,rfl,Z9 (by rw[HT0.out]; rfl),Z9 (OL.nil _ _),Z9 (Below.refl _ _),by omega⟩
 case round=>
  obtain⟨j,v3,E,rfl,rfl,hj,hEj,HL,HE,AV,hg⟩:=hrel;have yB:=HN.out;by_cases hlt:j<R.length
  ·obtain⟨b,off,rfl,-,hrr⟩:=OJ (HR.out.below AV.out) (k:=j) hlt;have YD:=Z9 (wF hrr);have hgw:W64 (qQ R j).Zx:=HW.out _ (by rw[NU hlt]; exact List.getElem_mem hlt);have HS:=Z9 (HST.out j hlt);have RN:=Z9 hg;generalize qQ R j=y at *
   have TP:=(Below.refl _ wr).alloc (Nat.le_refl _) (.cells (ZE (YP 0)) 47);have hxr:Bx (wr.alloc (.cells (ZE (YP 0)) 47)) wr.heap.size (ZE (YP 0)) 47:=heap_alloc_last wr _;obtain⟨V0,hV0⟩:=ZQ (wr.alloc (.cells (ZE (YP 0)) 47));rw[hV0] at TP hxr;obtain⟨hst,hx2⟩:=XL (q:=y) hxr;have AX:Below wr.heap.size wr (V0.setRow wr.heap.size (ZE y)):=ZU TP (Nat.le_refl _) (ZE y);obtain⟨g5,hg5⟩:=ZQ wr.heap.size;rw[hg5] at hst hx2 AX;have HX5:=Z9 hx2;clear hrr hg TP hxr hx2;go_upto_region 3 with fail;refine wl<|ZM (Zr rfl (j) (R.length) dT)<|wn ?_;simp only[pu];go_upto_region 4 with fail;refine wl<|YI (Z5 b (off+j*5)) (Ho b off R.length c j hlt _ _ _ rfl (by kernel_rfl) (by kernel_rfl))<|ZL rfl ⟨b,off+j*5,none⟩ (.agg (ZE y)) (YD.out) ?_;refine Zy rfl (some 5) rfl (Z5 wr.heap.size 0) (wr.alloc (.cells (ZE (YP 0)) 47)) (by kernel_rfl) ?_;simp only[pu];rw[hV0,hg5];refine Zk rfl (hst)<|wn ?_;generalize V0.setRow g5 (ZE y)=V1 at *
   have hE1:OL V1 W.heap.size u3 E:=HE.out.below (by rw[hg5]; exact AX);have hB1:=AV.out.trans (AX.mono (by rw[<- hg5]; exact AV.out.size));clear hst hV0 YD HE AV;obtain⟨ao,co,rfl,-,-⟩:=hE1.bse;go_upto_region 5 with fail;refine wl<|ZV (.slice ao E.length co)<|ZL rfl ⟨g5,0,none⟩ (.agg (ZE y)) (XY HX5.out)<|XI (fun v w'=>Own w' V1.heap.size v (Y9 y)/\Below V1.heap.size V1 w') (as5 y V1 hgw) (fun v14 V2 hq=>?_);obtain⟨hOl,hbl⟩:=hq;have hbL:=hB1.trans (hbl.mono hB1.size);obtain⟨bl,dl,rfl,Gf⟩:=Rw.of hOl (wo hgw) (Nat.le_trans (MX y) (by decide));have hlo:∀ x,bl=some x->Y9 y≠[]->V1.heap.size<=x.block:=fun x hx hne=>Gf.o hne x hx;have hE2:=hE1.below hbl;have hRb:=Gf.base (Nat.le_trans hB1.size (Nat.le_refl V1.heap.size));have jo:Y9 y≠[]->∀ x,bl=some x->(Value.slice ao E.length co).ownBlock≠some x.block:=fun hne x hx z=>by
    have h1:=hlo x hx hne;rcases hE1.own.2 with⟨e,-⟩ | ⟨q,cap,cur,e,-,hh,-⟩
    ·rw[e] at z; cases z
    ·rw[e] at z; simp only[Value.ownBlock,Option.some.injEq] at z; have:=(Array.getElem?_eq_some_iff.1 hh).1; have:=(Nat.le_refl V1.heap.size); omega
   have hbu:=Jy bl (Y9 y).length dl V2;have XG:Below V2.heap.size V2 (V2.alloc (.cells #[.slice bl (Y9 y).length dl] 54)):=(Below.refl _ V2).alloc (Nat.le_refl _) _;have hcz:Cs (V2.alloc (.cells #[.slice bl (Y9 y).length dl] 54)) (some ⟨V2.heap.size,0,none⟩) (EP [(bl,dl,Y9 y)]):=Cs.block (t:=54) (fr:=(0,0)) (heap_alloc_last V2 _);obtain⟨a9,c9,Va,hap,hEa,hba,-,-⟩:=yO (hE2.below XG) (some ⟨V2.heap.size,0,none⟩) 1 [(bl,dl,Y9 y)] hcz (fun e he=>by rw[List.mem_singleton.1 he]; exact hRb.below XG) (fun e he=>by rw[List.mem_singleton.1 he]; exact jo) (Nat.le_trans hbL.size XG.size) (by simp only[List.length_cons,List.length_nil]; omega);have hE4:(E++[(bl,dl,Y9 y)]).length=j+1:=(by simp[hEj]);have hL4:lsB (E++[(bl,dl,Y9 y)])=(R.take (j+1)).map Y9:=(by rw[HS.out,<- HL.out]; simp[lsB]);have hB4:=hbL.trans ((XG.mono hbL.size).trans hba);obtain⟨gz,hgz⟩:=ZQ V2.heap.size;rw[hgz] at hbu hap;generalize Y9 y=LF at *
   generalize E++[(bl,dl,LF)]=E2 at *
   have HE2:=Z9 hEa;have HB4:=Z9 hB4;have eX:=Z9 hL4;clear hbL hOl Gf hlo hE2 hRb jo XG hcz hEa hba hgz hB1 hbl hgw hE1 HL HS hB4 hL4;refine Zv (by kernel_rfl) (some 15) rfl 23 1 #[(0,.tmp 14)] rfl #[(0,.slice bl LF.length dl)] (by kernel_rfl) (.slice (some ⟨gz,0,none⟩) 1 1) _ hbu ?_;refine Zh rfl (some 16) rfl 23 rfl (.tmp 12) (.tmp 15) 23 rfl (.slice ao E.length co) (.slice (some ⟨gz,0,none⟩) 1 1) (.slice a9 E2.length c9) Va (by kernel_rfl) (by kernel_rfl) hap ?_;refine ZV (.slice a9 E2.length c9)<|wn ?_;simp only[pu];clear hap hbu;go_upto_region 6 with fail;refine wl<|Yn (Z8 (j+1:Nat)) (Zz rfl j 1 (by omega))<|ZV (Z8 (j+1:Nat))<|wn ?_;simp only[pu];go_wp2_with fail;go_roundg (R.length-(j+1))
   case measure=>have:=RN.out; omega
   case rel=>exact⟨j+1,_,E2,rfl,rfl,hlt,hE4,eX,HE2,HB4,rfl⟩
  ·obtain rfl:R.length=j:=(by omega);obtain⟨ao,co,rfl,hbs,hec⟩:=HE.out.bse;have hlb:(lsB E).length=E.length:=Xe E;have CR:=rY (lsB E) ao co wr (HG.out.below HG.out.size (HB.out.trans (AV.out.mono HB.out.size))) (by rw[hlb,hEj]; exact HN.out) (by rw[hlb]; exact hec) (af2 hbs (fun e he=>Nat.le_trans (HE.out.rw e he).n (by decide)));rw[HL.out,HTA.out,List.length_map,iM.out] at CR;have hwB:=HB.out.trans (AV.out.mono HB.out.size);have hXw:=HX.out.below HX.out.lt AV.out;clear HE AV HL hbs hec hlb;go_upto_region 3 with fail;refine wl<|ZM (Zr rfl (R.length) (R.length) dF)<|wn ?_;simp only[pu];rw[hEj];go_upto_region 7 with fail;refine wl<|ZV (.slice ao R.length co)<|YM (.agg (ZF S)) (fun w'=>Below wr.heap.size wr w') CR (fun V hV=>?_);obtain⟨hst,hX2⟩:=wB (S:=S) (hXw.below hXw.lt hV) (List.length_replicate) HK.out;have HF:=Z9 (ZU (hwB.trans (hV.mono hwB.size)) HG2.out (ZF S));clear hV hwB hXw CR;refine Zk rfl (hst)<|wn ?_;go_wp2_with fail;exact bodyPost_ret (XU rfl (by kernel_rfl) (BU (t:=50) hX2 HK.out)) rfl ⟨rfl,HF.out⟩
theorem Jv (R:List X6)(a:Option Addr)(c:Nat)(w:World)(hG:Glob w)(hR:Cs w a (U9 R))(hW:RsW R)(hn:R.length<=1000):Calls Tryz.prog 19 #[.slice a R.length c] w fun e w'=>e=.returned (.agg (ZF (Zb (R.map Y9))))/\Below w.heap.size w w':=by
 obtain⟨W,yR,hb,hx⟩:=ae7 w;have HR:=Z9 (hR.below hb);have HW:=Z9 hW;have HG:=Z9 hG;have HN:=Z9 hn;have HST:Hid (∀ j,j<R.length->(R.take (j+1)).map Y9=(R.take j).map Y9++[Y9 (qQ R j)]):=Z9 fun j hj=>by rw[List.take_succ_eq_append_getElem hj,List.map_append,NU hj]; rfl
 have HTA:Hid ((R.take R.length).map Y9=R.map Y9):=Z9 (by rw[List.take_length]);have HT0:Hid ((R.take 0).map Y9=[]):=Z9 rfl;have hk:=(Xw (R.map Y9)).1;obtain⟨S,hS⟩:=ZQ (Zb (R.map Y9));have iM:=Z9 hS;rw[hS] at hk ⊢;have HK:=Z9 hk;clear hS hk;clear hR hW hG hn;go_enter Tryz.func19,Tryz.ntmps19;go_upto_region 1 with fail;change Code.wp _ _ _ _ (w.alloc (.cells (ZF (List.replicate 32 0)) 50));rw[yR];obtain⟨g2,hg2⟩:=ZQ w.heap.size;have HB:=Z9 hb;rw[hg2] at hx;simp only[hg2];have HX:=Z9 hx;have HG2:Hid (w.heap.size<=g2):=Z9 (by omega);clear yR hb hx hg2;refine wl<|ZV (.slice none 0 0)<|wn ?_;simp only[pu];go_upto_region 2 with fail;refine wl<|Yr (.slice a R.length c) (Z8 R.length) (Z8 0)<|wn ?_;simp only[pu];go_wp2_with fail;go_loopg [3,5,8] R.length (fun gg s3 s5 s8 wx=>∃ (j:Nat) (v3:Value) (E:List Bs),s3=v3/\s8=Z8 j/\j<=R.length/\E.length=j/\Hid (lsB E=(R.take j).map Y9)/\Hid (OL wx W.heap.size v3 E)/\Hid (Below W.heap.size W wx)/\R.length-j=gg)
 case atStart=>exact⟨0,_,[],rfl,rfl,by omega,rfl,Z9 (by rw[HT0.out]; rfl),Z9 (OL.nil _ _),Z9 (Below.refl _ _),by omega⟩
 case round=>
  obtain⟨j,v3,E,rfl,rfl,hj,hEj,HL,HE,AV,hg⟩:=hrel;have yB:=HN.out;by_cases hlt:j<R.length
  ·obtain⟨b,off,rfl,-,hrr⟩:=OJ (HR.out.below AV.out) (k:=j) hlt;have YD:=Z9 (wF hrr);have hgw:W64 (qQ R j).Zx:=HW.out _ (by rw[NU hlt]; exact List.getElem_mem hlt);have HS:=Z9 (HST.out j hlt);have RN:=Z9 hg;generalize qQ R j=y at *
   have TP:=(Below.refl _ wr).alloc (Nat.le_refl _) (.cells (ZE (YP 0)) 47);have hxr:Bx (wr.alloc (.cells (ZE (YP 0)) 47)) wr.heap.size (ZE (YP 0)) 47:=heap_alloc_last wr _;obtain⟨V0,hV0⟩:=ZQ (wr.alloc (.cells (ZE (YP 0)) 47));rw[hV0] at TP hxr;obtain⟨hst,hx2⟩:=XL (q:=y) hxr;have AX:Below wr.heap.size wr (V0.setRow wr.heap.size (ZE y)):=ZU TP (Nat.le_refl _) (ZE y);obtain⟨g5,hg5⟩:=ZQ wr.heap.size;rw[hg5] at hst hx2 AX;have HX5:=Z9 hx2;clear hrr hg TP hxr hx2;go_upto_region 3 with fail;refine wl<|ZM (Zr rfl (j) (R.length) dT)<|wn ?_;simp only[pu];go_upto_region 4 with fail;refine wl<|YI (Z5 b (off+j*5)) (Ho b off R.length c j hlt _ _ _ rfl (by kernel_rfl) (by kernel_rfl))<|ZL rfl ⟨b,off+j*5,none⟩ (.agg (ZE y)) (YD.out) ?_;refine Zy rfl (some 5) rfl (Z5 wr.heap.size 0) (wr.alloc (.cells (ZE (YP 0)) 47)) (by kernel_rfl) ?_;simp only[pu];rw[hV0,hg5];refine Zk rfl (hst)<|wn ?_;generalize V0.setRow g5 (ZE y)=V1 at *
   have hE1:OL V1 W.heap.size u3 E:=HE.out.below (by rw[hg5]; exact AX);have hB1:=AV.out.trans (AX.mono (by rw[<- hg5]; exact AV.out.size));clear hst hV0 YD HE AV;obtain⟨ao,co,rfl,-,-⟩:=hE1.bse;have hbf:=jq ⟨1,0,IntKind.u64.wrap y.code,[]⟩ ⟨2,0,y.Zx,[]⟩ V1;obtain⟨V2,hV2,hb2,hfs⟩:=as4 (x:=⟨1,0,IntKind.u64.wrap y.code,[]⟩) (y:=⟨2,0,y.Zx,[]⟩) rfl rfl V1;rw[hV2] at hbf;have CM:=Uc (some ⟨V1.heap.size,0,none⟩) 2 [(⟨1,0,IntKind.u64.wrap y.code,[]⟩,.slice none 0 0),(⟨2,0,y.Zx,[]⟩,.slice none 0 0)] V2 hfs (fun p hp=>by
    have h:=jv hgw p.1 (by rcases List.mem_cons.1 hp with e | e; rw[e]; exact List.mem_cons_self; rw[List.mem_singleton.1 e]; exact List.mem_cons_of_mem _ List.mem_cons_self);exact⟨h.1,h.2.1⟩) (Nat.le_trans (MX y) (by decide)) (show 2<=100000 by decide)
   have af4:=hb2.size;obtain⟨g1,hg1⟩:=ZQ V1.heap.size;rw[hg1] at hbf CM;clear hV2 hfs;go_upto_region 5 with fail;refine wl<|ZB (.slice ao E.length co) (Z5 g5 0)<|ZL rfl ⟨g5,0,none⟩ (Z8 y.code) (HX5.out.ZR 0)<|YI (Z7 (IntKind.u64.wrap y.code)) (jr rfl y.code (by kernel_rfl) _) <|
    ZB (.agg (XR ⟨1,0,IntKind.u64.wrap y.code,[]⟩ none 0)) (Z5 g5 3)<|ZL rfl ⟨g5,3,none⟩ (Z7 y.Zx) (HX5.out.ZR 3)<|ZV (.agg (XR ⟨2,0,y.Zx,[]⟩ none 0)) ?_
   refine Zv (by kernel_rfl) (some 20) rfl 78 2 #[(0,.tmp 16),(1,.tmp 19)] rfl #[(0,.agg (XR ⟨1,0,IntKind.u64.wrap y.code,[]⟩ none 0)),(1,.agg (XR ⟨2,0,y.Zx,[]⟩ none 0))] (by kernel_rfl) (.slice (some ⟨g1,0,none⟩) 2 2) _ hbf ?_;refine XI (fun v w'=>Own w' V2.heap.size v (Y9 y)/\Below V2.heap.size V2 w') CM (fun v21 V3 hq=>?_);obtain⟨hOl,hbm⟩:=hq;have hbl:=hb2.trans (hbm.mono af4);have hbL:=hB1.trans (hbl.mono hB1.size);obtain⟨bl,dl,rfl,Gf⟩:=Rw.of hOl (wo hgw) (Nat.le_trans (MX y) (by decide));have hlo:∀ x,bl=some x->Y9 y≠[]->V2.heap.size<=x.block:=fun x hx hne=>Gf.o hne x hx;have hE2:=hE1.below hbl;have hRb:=Gf.base (Nat.le_trans hB1.size hb2.size);have jo:Y9 y≠[]->∀ x,bl=some x->(Value.slice ao E.length co).ownBlock≠some x.block:=fun hne x hx z=>by
    have h1:=hlo x hx hne;rcases hE1.own.2 with⟨e,-⟩ | ⟨q,cap,cur,e,-,hh,-⟩
    ·rw[e] at z; cases z
    ·rw[e] at z; simp only[Value.ownBlock,Option.some.injEq] at z; have:=(Array.getElem?_eq_some_iff.1 hh).1; have:=hb2.size; omega
   have hbu:=Jy bl (Y9 y).length dl V3;have XG:Below V3.heap.size V3 (V3.alloc (.cells #[.slice bl (Y9 y).length dl] 54)):=(Below.refl _ V3).alloc (Nat.le_refl _) _;have hcz:Cs (V3.alloc (.cells #[.slice bl (Y9 y).length dl] 54)) (some ⟨V3.heap.size,0,none⟩) (EP [(bl,dl,Y9 y)]):=Cs.block (t:=54) (fr:=(0,0)) (heap_alloc_last V3 _);obtain⟨a9,c9,Va,hap,hEa,hba,-,-⟩:=yO (hE2.below XG) (some ⟨V3.heap.size,0,none⟩) 1 [(bl,dl,Y9 y)] hcz (fun e he=>by rw[List.mem_singleton.1 he]; exact hRb.below XG) (fun e he=>by rw[List.mem_singleton.1 he]; exact jo) (Nat.le_trans hbL.size XG.size) (by simp only[List.length_cons,List.length_nil]; omega);have hE4:(E++[(bl,dl,Y9 y)]).length=j+1:=(by simp[hEj]);have hL4:lsB (E++[(bl,dl,Y9 y)])=(R.take (j+1)).map Y9:=(by rw[HS.out,<- HL.out]; simp[lsB]);have hB4:=hbL.trans ((XG.mono hbL.size).trans hba);obtain⟨gz,hgz⟩:=ZQ V3.heap.size;rw[hgz] at hbu hap;generalize Y9 y=LF at *
   generalize E++[(bl,dl,LF)]=E2 at *
   have HE2:=Z9 hEa;have HB4:=Z9 hB4;have eX:=Z9 hL4;clear CM hbm hbf af4 hg1 hb2 hbL hOl Gf hlo hE2 hRb jo XG hcz hEa hba hgz hB1 hbl hgw hE1 HL HS hB4 hL4;refine Zv (by kernel_rfl) (some 22) rfl 23 1 #[(0,.tmp 21)] rfl #[(0,.slice bl LF.length dl)] (by kernel_rfl) (.slice (some ⟨gz,0,none⟩) 1 1) _ hbu ?_;refine Zh rfl (some 23) rfl 23 rfl (.tmp 12) (.tmp 22) 23 rfl (.slice ao E.length co) (.slice (some ⟨gz,0,none⟩) 1 1) (.slice a9 E2.length c9) Va (by kernel_rfl) (by kernel_rfl) hap ?_;refine ZV (.slice a9 E2.length c9)<|wn ?_;simp only[pu];clear hap hbu;go_upto_region 6 with fail;refine wl<|Yn (Z8 (j+1:Nat)) (Zz rfl j 1 (by omega))<|ZV (Z8 (j+1:Nat))<|wn ?_;simp only[pu];go_wp2_with fail;go_roundg (R.length-(j+1))
   case measure=>have:=RN.out; omega
   case rel=>exact⟨j+1,_,E2,rfl,rfl,hlt,hE4,eX,HE2,HB4,rfl⟩
  ·obtain rfl:R.length=j:=(by omega);obtain⟨ao,co,rfl,hbs,hec⟩:=HE.out.bse;have hlb:(lsB E).length=E.length:=Xe E;have CR:=BF (lsB E) ao co wr (by rw[hlb,hEj]; exact HN.out) (by rw[hlb]; exact hec) (af2 hbs (fun e he=>Nat.le_trans (HE.out.rw e he).n (by decide)));rw[HL.out,HTA.out,List.length_map,iM.out] at CR;have hwB:=HB.out.trans (AV.out.mono HB.out.size);have hXw:=HX.out.below HX.out.lt AV.out;clear HE AV HL hbs hec hlb;go_upto_region 3 with fail;refine wl<|ZM (Zr rfl (R.length) (R.length) dF)<|wn ?_;simp only[pu];rw[hEj];go_upto_region 7 with fail;refine wl<|ZV (.slice ao R.length co)<|YM (.agg (ZF S)) (fun w'=>Below wr.heap.size wr w') CR (fun V hV=>?_);obtain⟨hst,hX2⟩:=wB (S:=S) (hXw.below hXw.lt hV) (List.length_replicate) HK.out;have HF:=Z9 (ZU (hwB.trans (hV.mono hwB.size)) HG2.out (ZF S));clear hV hwB hXw CR;refine Zk rfl (hst)<|wn ?_;go_wp2_with fail;exact bodyPost_ret (XU rfl (by kernel_rfl) (BU (t:=50) hX2 HK.out)) rfl ⟨rfl,HF.out⟩
theorem as6:DgQ 18:=fun w hG=>Jw [] none 0 w hG (Cs.nil _ _) (fun r h=>by cases h) (by decide)
theorem as7:DgQ 19:=fun w hG=>Jv [] none 0 w hG (Cs.nil _ _) (fun r h=>by cases h) (by decide)
end Go.Proofs.YtfpnnmeblefkkaaGreatDoor.Lg
namespace Go.Proofs.YtfpnnmeblefkkaaGreatDoor.Lg
open Go.ChangeShapes Go.WideShapes Go.ChangeAt Go.Deep Go.Joins
open Go.RowKit
section
variable {H : Type} {enc : TypeId × Value -> H}
theorem Fe {P:Program}{w:World}{base:Nat}{spare:Nat->Bool}{held:Bool}{t:TypeId}{f0 f1 f2 f3 f4:Field}{fuel:Nat}{cs:List Value}{x:DataW H×List MemPlace}(ht:P.underlying t=some (.struct #[f0,f1,f2,f3,f4]))(h:DataW.trod enc P w base spare held fuel t cs=some x) :
  ∃ y0 y1 y2 y3 y4 n,x.1=.agg [y0.1,y1.1,y2.1,y3.1,y4.1]/\cs.length=P.cellsOf t/\DataW.trod enc P w base spare held n f0.type ((cs.drop f0.offset).take (P.cellsOf f0.type))=some y0 /\
   DataW.trod enc P w base spare held n f1.type ((cs.drop f1.offset).take (P.cellsOf f1.type))=some y1/\DataW.trod enc P w base spare held n f2.type ((cs.drop f2.offset).take (P.cellsOf f2.type))=some y2 /\
   DataW.trod enc P w base spare held n f3.type ((cs.drop f3.offset).take (P.cellsOf f3.type))=some y3/\DataW.trod enc P w base spare held n f4.type ((cs.drop f4.offset).take (P.cellsOf f4.type))=some y4:=by
 obtain⟨xs,n,_,rfl,hl,hlen,hf⟩:=DataW.trod_struct ht h;match xs,hlen with
 | [y0,y1,y2,y3,y4],_=>exact⟨y0,y1,y2,y3,y4,n,by simp,hl,by simpa using hf 0 f0 rfl,by simpa using hf 1 f1 rfl,by simpa using hf 2 f2 rfl,by simpa using hf 3 f3 rfl,by simpa using hf 4 f4 rfl⟩
theorem aa5 {W:World}{fuel:Nat}{cs:List Value}{y:DataW H×List MemPlace}(h:DataW.trod enc Tryz.prog W 0 (fun _=>true) true fuel 47 cs=some y):∃ x:X6,cs=TM x/\W64 x.Zx:=by
 obtain⟨y0,y1,y2,y3,y4,n,-,hl,t0,t1,t2,t3,t4⟩:=Fe Tryz.underlying47 h;have hc:Tryz.prog.cellsOf 47=5:=by kernel_rfl
 rw[hc] at hl;match cs,hl with
 | [c0,c1,c2,c3,c4],_=>
  obtain⟨n0,e0,-,w0⟩:=DataW.trod_int (k:=.i64) Tryz.underlying42 t0;obtain⟨s1,e1,d1,-⟩:=DataW.trod_string Tryz.underlying9 t1;obtain⟨n2,e2,-,w2⟩:=DataW.trod_int (k:=.u64) Tryz.underlying24 t2;obtain⟨n3,e3,-,w3⟩:=DataW.trod_int (k:=.u64) Tryz.underlying24 t3;obtain⟨n4,e4,-,w4⟩:=DataW.trod_int (k:=.u64) Tryz.underlying24 t4;have k0:Tryz.prog.cellsOf 9=1:=by kernel_rfl
  have k1:Tryz.prog.cellsOf 24=1:=by kernel_rfl
  have k2:Tryz.prog.cellsOf 42=1:=by kernel_rfl
  simp only[k0,k1,k2,List.drop_zero,List.drop_succ_cons,List.take_succ_cons,List.take_zero,List.cons.injEq,and_true] at e0 e1 e2 e3 e4;subst e0 e1 e2 e3 e4;exact⟨⟨n0,s1,n2,n3,n4⟩,rfl,rZ w3⟩
theorem jA {R:List X6}{j:Nat}{v:Value}(h:(U9 R)[j]?=some v):j / 5<R.length/\(TM (qQ R (j / 5)))[j % 5]?=some v:=by
 have hj:j<R.length*5:=by
  have:=(List.getElem?_eq_some_iff.1 h).1;rwa [JH] at this
 have hk:j / 5<R.length:=by omega
 have h5:j % 5<(TM (qQ R (j / 5))).length:=by show j % 5<5; omega
 have h1:=La R (j / 5) (j % 5) _ hk (List.getElem?_eq_getElem h5);rw[show j / 5*5+j % 5=j by omega,h] at h1;exact⟨hk,by rw[List.getElem?_eq_getElem h5,h1]⟩
theorem jy {W:World}{fuel:Nat}{cs:List Value}{y:DataW H×List MemPlace}(h:DataW.trod enc Tryz.prog W 0 (fun _=>true) true fuel 35 cs=some y) :
  ∃ a cap M,cs=[.slice a (List.length M) cap]/\M.length<=9223372036854775807/\(Cs W a (U9 M)/\RsW M):=by
 rcases open_slice Tryz.underlying35 h with⟨rfl,rfl⟩ | ⟨a,len,cap,m,n,D,Pl,rfl,_,hl,hm,hmm,rfl,hi⟩
 ·exact⟨none,0,[],rfl,by simp,Cs.nil _ _,fun x hx=>by cases hx⟩
 ·have hm':m=cap:=by simpa using hmm
  have hc:Tryz.prog.cellsOf 47=5:=by kernel_rfl
  obtain⟨M,hpl,hps⟩:=aC (Q:=fun i (x:X6)=>(∀ j v,(TM x)[j]?=some v->W.cell? (a.add (i*5+j))=some v)/\W64 x.Zx) len (by
   intro i hlt;obtain⟨cs',h1,h2⟩:=hi i (by omega);obtain⟨x,rfl,hw⟩:=aa5 h2;rw[hc] at h1;obtain⟨_,_,hat⟩:=World.cells?_some h1;refine⟨x,fun j v hj=>?_,hw⟩;have hj5:j<5:=(List.getElem?_eq_some_iff.1 hj).1;have:=hat j hj5;rw[add_add] at this;rw[this,hj])
  have hspot:0<M.length->a.spot=none:=fun h0=>by
   have h1:=(hps 0 (M[0]) (by simp[h0])).1 0 (Z8 (M[0]).code) rfl;have h2:W.cell? a=some (Z8 (M[0]).code):=(by simpa [Addr.add] using h1);exact World.cell?_spot h2
  refine⟨some a,cap,M,by rw[hpl],by rw[hpl]; unfold maxLen at hm; omega,fun j v hj=>?_,fun x hx=>by
   obtain⟨i,hlt,e⟩:=List.getElem_of_mem hx;exact(hps i x (by rw[List.getElem?_eq_getElem hlt,e])).2⟩
  obtain⟨hk,h2⟩:=jA hj;obtain⟨b,off,spot⟩:=a;obtain rfl:spot=none:=hspot (by omega);have h3:=(hps (j / 5) (qQ M (j / 5)) (by rw[NU hk]; exact List.getElem?_eq_getElem hk)).1 (j % 5) v h2;rw[Go.WideShapes.add_plain,show j / 5*5+j % 5=j by omega] at h3;exact⟨b,off,rfl,World.block_lt_of_cell? W _ h3,h3⟩
end
end Go.Proofs.YtfpnnmeblefkkaaGreatDoor.Lg
