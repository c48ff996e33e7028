/-
  Texts joined.
-/
import Derived.Test.YtfpnnmeblefkkaaGreatDoorD26
import Derived.ChangeOld
set_option maxRecDepth 100000
set_option maxHeartbeats 8000000
set_option linter.unusedSimpArgs false
set_option linter.unusedVariables false
namespace Go.Proofs.YtfpnnmeblefkkaaGreatDoor.Lg
attribute [local irreducible] wpList wpQuiet
open Mo (YK YR Yl Yw)
open Go.RowKit
def aI0 (w:World)(la:Option Addr)(A:List Ac)(X:List Ac×Int)(e:Ending)(w':World):Prop:=∃ ad k,e=.returned (.agg (ZT ad X.1.length k X.2))/\Cs w' ad (acc X.1)/\X.1.length<=k/\((ad=la/\X.1=A)∨∀ x,ad=some x->w.heap.size<=x.block)/\Below w.heap.size w w'
theorem sF (A:List Ac)(c p:Int)(L:List Int)(la ra:Option Addr)(lk rc:Nat)(w:World)(hL:Cs w la (acc A))(hlk:A.length<=lk)(hd:Bj A c)(hp:W64 p)(hR:Sl w ra rc L)(hrc:L.length<=rc)(h8:∀ y,y∈L->W8 y) :
  Calls Tryz.prog 38 #[.agg (ZT la A.length lk c),Z7 p,.slice ra L.length rc] w (aI0 w la A (TF A c p L).1):=by
 obtain⟨hb0,VJ,Ws⟩:=Ym w (ZT la A.length lk c) (ZT none 0 0 0) 30 30;have CT:=zi A c p L la ra lk rc _ (hL.below hb0) hlk hd.n hd.cw hd.w hd.z hp (ZP hR hb0) hrc h8;have HON:=Z9 (Vh hL);generalize TF A c p L=X at *
 clear hL hd hp hR hrc h8 hlk;go_enter Tryz.func38,Tryz.ntmps38;go_upto_region 1 with fail;change Code.wp _ _ _ _ ((w.alloc (.cells (ZT la A.length lk c) 30)).alloc (.cells (ZT none 0 0 0) 30));generalize (w.alloc (.cells (ZT la A.length lk c) 30)).alloc (.cells (ZT none 0 0 0) 30)=W at *
 obtain⟨g3,hg3⟩:=ZQ w.heap.size;obtain⟨g6,S9⟩:=ZQ (g3+1);rw[hg3] at VJ;rw[show w.heap.size+1=g6 by omega] at Ws;have HG:Hid (w.heap.size<=g6/\g6<W.heap.size):=Z9 ⟨by omega,Ws.lt⟩;simp only[hg3];simp only[S9];have HB0:=Z9 hb0;have Xr:=Z9 VJ;have Xx:=Z9 Ws;clear hb0 hg3 S9 VJ Ws;refine wl<|ZL rfl ⟨g3,0,none⟩ (.agg (ZT la A.length lk c)) (ZO Xr.out)<|ZB (Z7 p) (.slice ra L.length rc) <|
  XI (fun v w'=>∃ aZ kZ,v=.tuple #[.agg (ZT aZ X.1.1.length kZ X.1.2),.agg (ZE X.2)]/\Cs w' aZ (acc X.1.1)/\X.1.1.length<=kZ/\((aZ=la/\X.1.1=A)∨∀ x,aZ=some x->W.heap.size<=x.block)/\Below W.heap.size W w') (CT.mono fun e w' q=>by obtain⟨aZ,kZ,h1,h2⟩:=q; exact⟨_,h1,aZ,kZ,rfl,h2⟩) (fun vv V2 hq=>?_)
 obtain⟨a2,k2,rfl,hct,hkt,hbl,hbt⟩:=hq;obtain⟨Va,Vb,Vc,tJ,hlt2,hs6,hs7,hb7,hx4,-⟩:=kE V2 a2 X.1.1.length k2 X.1.2 X.2;refine Yr (.tuple #[.agg (ZT a2 X.1.1.length k2 X.1.2),.agg (ZE X.2)]) (.agg (ZT a2 X.1.1.length k2 X.1.2)) (.agg (ZE X.2)) ?_;refine Zy rfl (some 7) rfl (Z5 V2.heap.size 0) (V2.alloc (.cells (ZT none 0 0 0) 30)) (by kernel_rfl) ?_;simp only[pu];rw[tJ];refine Zy rfl (some 8) rfl (Z5 Va.heap.size 0) (Va.alloc (.cells (ZE (YP 0)) 47)) (by kernel_rfl) ?_;refine Zk rfl (hs6)<|Zk rfl (hs7)<|wn ?_;have XG:=hbt.trans (hb7.mono hbt.size);obtain⟨g7,P6⟩:=ZQ V2.heap.size;obtain⟨g8,L6⟩:=ZQ Va.heap.size;rw[P6] at hx4 ⊢;obtain⟨hst3,Wh⟩:=ZC (a':=a2) (n':=X.1.1.length) (k':=k2) (c':=X.1.2) (Xx.out.below Xx.out.lt XG);have Yk:But g6 Vc (Vc.setRow g6 (ZT a2 X.1.1.length k2 X.1.2)):=But.setRow Vc (ZT a2 X.1.1.length k2 X.1.2);have I9:=YG (hct.below hb7) Yk (yZ hbl HON.out HG.out.1 HG.out.2);have Nb:=ZU (HB0.out.trans (XG.mono HB0.out.size)) HG.out.1 (ZT a2 X.1.1.length k2 X.1.2);have HE:Hid (aI0 w la A X.1 (.returned (.agg (ZT a2 X.1.1.length k2 X.1.2))) (Vc.setRow g6 (ZT a2 X.1.1.length k2 X.1.2))):=Z9 ⟨a2,k2,rfl,I9,hkt,hbl.imp id (fun h9 x hx=>Nat.le_trans HB0.out.size (h9 x hx)),Nb⟩;generalize Vc.setRow g6 (ZT a2 X.1.1.length k2 X.1.2)=V3 at *
 clear tJ hs6 hs7 hct hbl hbt hb7 XG Yk I9 Nb P6 L6 CT;go_upto_region 2 with fail;refine wl<|ZL rfl ⟨g7,0,none⟩ (.agg (ZT a2 X.1.1.length k2 X.1.2)) (ZO hx4)<|Zk rfl (hst3)<|wn ?_;simp only[pu];go_wp2_with fail;exact bodyPost_ret (XU rfl (by kernel_rfl) (ZO Wh)) rfl HE.out
theorem sD {w w':World}{B g c k:Nat}{a:Option Addr}{L:List Int}(h:NS w g a c L k)(hb:Below B w w')(hg:g<B)(ha:L≠[]->∀ x,a=some x->x.block<B):NS w' g a c L k:=by
 obtain⟨N,h1,h2,h3,h4⟩:=h;refine⟨N,h1,h2.below hg hb,fun j v hj=>?_,h4⟩;obtain⟨b,off,e,hlt,hc⟩:=h3 j v hj;have hne:L≠[]:=fun z=>by rw[z] at hj; simp[Xb] at hj
 exact⟨b,off,e,Nat.lt_of_lt_of_le hlt hb.size,(hb.cell (p:=⟨b,off+j,none⟩) (ha hne ⟨b,off,none⟩ e:b<B)).trans hc⟩
structure OL (w:World)(B:Nat)(v:Value)(E:List Bs):Prop where
 own:w.ownsRow B 54 1 v E.length (EP E)
 rw:∀ e,e∈E->Rw w B e.1 e.2.1 e.2.2
 ap:∀ e,e∈E->e.2.2≠[]->∀ x,e.1=some x->v.ownBlock≠some x.block
theorem aa0 (E:List Bs):(EP E).length=E.length:=by simp[EP]
theorem aa1 (E:List Bs):∀ u∈EP E,u.oneCell'=true:=fun u hu=>by
 obtain⟨x,-,rfl⟩:=List.mem_map.1 hu;rfl
theorem OL.nil (w:World)(B:Nat):OL w B (.slice none 0 0) []:=⟨World.ownsRow_nil _ _ _ _,(fun e he=>by cases he),fun e he=>by cases he⟩
theorem OL.below {w w':World}{B:Nat}{v:Value}{E:List Bs}(h:OL w B v E)(hb:Below w.heap.size w w'):OL w' B v E:=⟨own_below h.own hb,fun e he=>(h.rw e he).below hb,h.ap⟩
theorem OL.but {w w':World}{B g:Nat}{v:Value}{E:List Bs}(h:OL w B v E)(hb:But g w w')(hg:g<B):OL w' B v E:=⟨Zo h.own hb hg,fun e he=>(h.rw e he).but hb hg,h.ap⟩
theorem OL.base {w:World}{B B2:Nat}{v:Value}{E:List Bs}(h:OL w B2 v E)(hB:B<=B2):OL w B v E:=⟨own_base h.own hB,fun e he=>(h.rw e he).base hB,h.ap⟩
theorem OL.bse {w:World}{B:Nat}{v:Value}{E:List Bs}(h:OL w B v E):∃ a c,v=.slice a E.length c/\AQ w a E/\E.length<=c:=by
 obtain⟨a,c,e,h1,h2⟩:=Yd h.own;exact⟨a,c,e,⟨h1,fun e he=>(h.rw e he).sl,fun e he=>(h.rw e he).le,fun e he=>(h.rw e he).b⟩,h2⟩
theorem AU:(Tryz.prog.info? 54).map (fun i=>(i.zero,i.size,i.bytes))=some (some (.slice none 0 0),1,24):=by kernel_rfl
theorem Jy (a:Option Addr)(n c:Nat)(V:World):(Instr.buildSlice 23 1 #[(0,.slice a n c)]).run Tryz.prog V=.ok (.slice (some ⟨V.heap.size,0,none⟩) 1 1) (V.alloc (.cells #[.slice a n c] 54)):=by
 obtain⟨i0,hi,hz0,hz1,hz2⟩:=info_parts AU;refine run_buildSlice V 23 54 1 _ #[.slice a n c] i0 _ Tryz.underlying23 hi hz0 (by rw[hz1]; omega) (by rw[hz1]; omega) ?_;rw[hz1];kernel_rfl
theorem jD {w w':World}{row:Option Nat}{a:Option Addr}{c:Nat}{L:List Int}(h:Sl w a c L)(hg:w.grownBy w' row)(hn:L≠[]->∀ x,a=some x->row≠some x.block):Sl w' a c L:=by
 rcases h with h | ⟨x,rfl,hx⟩
 ·exact .inl h
 ·refine .inr ⟨x,rfl,fun k hk=>?_⟩;obtain⟨b,off,rfl,hc⟩:=hx k hk;refine⟨b,off,rfl,?_⟩;rw[<- hc];exact World.cell?_of_block (hg.block b (World.block_lt_of_cell? w (⟨b,off+k,none⟩:Addr) hc) (fun q=>hn (fun z=>by rw[z] at hk; cases hk) _ rfl q.symm))
theorem yO {w:World}{B:Nat}{v:Value}{A:List Bs}(h:OL w B v A)(pa:Option Addr)(cp:Nat)(M:List Bs)(hP:Cs w pa (EP M))(hM:∀ e,e∈M->Rw w B e.1 e.2.1 e.2.2)(hap:∀ e,e∈M->e.2.2≠[]->∀ x,e.1=some x->v.ownBlock≠some x.block)(hB:B<=w.heap.size)(hl:(A.length+M.length)*24<=140737488355328) :
  ∃ a c V2,(Builtin.append_ #[23,23] 23 #[v,.slice pa M.length cp]).run Tryz.prog w=.ok (.slice a (A++M).length c) V2/\OL V2 B (.slice a (A++M).length c) (A++M)/\Below B w V2/\w.grownBy V2 v.ownBlock/\((Value.slice a (A++M).length c).ownBlock=v.ownBlock∨(Value.slice a (A++M).length c).ownBlock=some w.heap.size):=by
 obtain⟨v2,V2,hr,hO,hb,hg,hat⟩:=RH (P:=Tryz.prog) (t:=23) (e:=54) (m:=M.length) (s:=1) (bytes:=24) Tryz.underlying23 AU (by kernel_rfl) (by omega) h.own pa cp (EP M) hP (by rw[aa0,Nat.mul_one]) (aa1 M) hB (by omega) hl;have hO2:V2.ownsRow B 54 1 v2 (A++M).length (EP (A++M)):=by rw[List.length_append,show EP (A++M)=EP A++EP M by unfold EP; rw[List.map_append]]; exact hO
 obtain⟨a,c,e,-,-⟩:=Yd hO2;subst e;have hR:∀ e,e∈A++M->Rw w B e.1 e.2.1 e.2.2/\(e.2.2≠[]->∀ x,e.1=some x->v.ownBlock≠some x.block):=fun e he=>by
  rcases List.mem_append.1 he with h1 | h1
  ·exact⟨h.rw e h1,h.ap e h1⟩
  ·exact⟨hM e h1,hap e h1⟩
 refine⟨a,c,V2,hr,⟨hO2,fun e he=>?_,fun e he hne x hx=>?_⟩,hb,hg,hat⟩
 ·obtain⟨r1,r2⟩:=hR e he;exact⟨jD r1.sl hg r2,r1.le,r1.b,r1.n,r1.o⟩
 ·obtain⟨r1,r2⟩:=hR e he;rcases hat with h1 | h1
  ·rw[h1]; exact r2 hne x hx
  ·rw[h1];intro q;obtain⟨b,off,e2,hlt,-⟩:=Oq r1.sl (k:=0) (List.length_pos_iff.2 hne);rw[hx] at e2;cases e2;simp only[Option.some.injEq] at q;omega
def aI1 (w:World)(g:Nat)(e:Ending)(w':World):Prop:=∃ v E,e=.returned v/\OL w' w.heap.size v E/\E.length<=6/\But g w w'
theorem BH {w:World}{g:Nat}{y0 y1 y2 z0 z1:Value}{a:Option Addr}{n k:Nat}{c p:Int}(h:Bx w g #[.slice a n k,Z7 c,z0,z1,y0,y1,y2,Z7 p] 67):(Instr.loadAt 30 (Z5 g 0)).run Tryz.prog w=.ok (.agg (ZT a n k c)) w:=
 run_loadAt_mid w g 0 30 [.slice a n k,Z7 c] _ (Bx.two h 0 _ _ rfl rfl) Tryz.underlying30 rfl (by kernel_rfl)
theorem aa2 {w:World}{g c k ck:Nat}{a ca:Option Addr}{L:List Int}{C0:List Ac}{cc p:Int}{y0 y1 y2 z0 z1:Value}(h:NS w g a c L k)(hl:L.length<=100000)(hk:k<=5000)(hrow:Cs w ca (acc C0))(hck:C0.length<=ck)(hrg:acc C0≠[]->∀ x,ca=some x->x.block≠g)(hq:MG C0 cc)(hp:W64 p) :
  Calls Tryz.prog 23 #[Z5 g 0,.agg #[.slice ca (List.length C0) ck,Z7 cc,z0,z1,y0,y1,y2,Z7 p],Z8 6] w (aI1 w g):=by
 have hb0:Below w.heap.size w (w.alloc (.cells #[.slice ca (List.length C0) ck,Z7 cc,z0,z1,y0,y1,y2,Z7 p] 67)):=(Below.refl _ w).alloc (Nat.le_refl _) _;have hX0:Bx (w.alloc (.cells #[.slice ca (List.length C0) ck,Z7 cc,z0,z1,y0,y1,y2,Z7 p] 67)) w.heap.size #[.slice ca (List.length C0) ck,Z7 cc,z0,z1,y0,y1,y2,Z7 p] 67:=heap_alloc_last w _;have XA:=Z9 h.lt;have HAB:=Z9 (fun h1 x hx=>h.ab h1 x hx);have hns0:=h.below hb0;have hrow0:=hrow.below hb0;have HCO:=Z9 (Vh hrow);have qU:=Z9 hp;clear h hrow hp;go_enter Tryz.func23,Tryz.ntmps23;go_upto_region 1 with fail;change Code.wp _ _ _ _ (w.alloc (.cells #[.slice ca (List.length C0) ck,Z7 cc,z0,z1,y0,y1,y2,Z7 p] 67));generalize w.alloc (.cells #[.slice ca (List.length C0) ck,Z7 cc,z0,z1,y0,y1,y2,Z7 p] 67)=W at *
 obtain⟨g4,hg4⟩:=ZQ w.heap.size;obtain⟨V2,hst,hb2,Wh⟩:=Vk W ca (List.length C0) ck cc;have HB2:=Z9 (hb0.trans (hb2.mono hb0.size));rw[hg4] at hX0;simp only[hg4];have Xy:=hX0.below hX0.lt hb2;have Uz:=hns0.below hb2;have hrow2:=hrow0.below hb2;obtain⟨g8,L6⟩:=ZQ W.heap.size;rw[L6] at Wh;have HG:Hid (w.heap.size=g4/\g4<g8/\g<g4/\g8<V2.heap.size):=Z9 ⟨hg4,by have:=hX0.lt; omega,by have:=XA.out; omega,Wh.lt⟩;refine wl<|ZV (.slice none 0 0)<|wn ?_;simp only[pu];go_upto_region 2 with fail;refine wl<|ZV (Z5 g4 0)<|ZL rfl ⟨g4,0,none⟩ (.agg (ZT ca (List.length C0) ck cc)) (BH hX0) ?_;refine Zy rfl (some 8) rfl (Z5 W.heap.size 0) (W.alloc (.cells (ZT none 0 0 0) 30)) (by kernel_rfl) ?_;refine Zk rfl (hst)<|wn ?_;rw[L6];obtain⟨v9,hv9,CN⟩:=X5 Uz hl (by omega) 7 (by decide) (by decide);clear hb0 hst hb2 hX0 hns0 hrow0 hg4 L6;go_upto_region 3 with fail;refine wl<|Yr (Z5 g 0) (Z8 6) (Z8 7)<|YM (Z8 v9) (fun w'=>NS w' g a c L (k+1)/\But g V2 w') CN (fun V3 hq=>?_);obtain⟨aI2,KL⟩:=hq;refine ZV (Z8 v9)<|wn ?_;simp only[pu];obtain⟨B0,hB0⟩:=ZQ V2.heap.size;have LD:Hid (g8<B0/\w.heap.size<=B0/\B0<=V3.heap.size):=Z9 ⟨by have:=HG.out.2.2.2; omega,by have:=HB2.out.size; omega,by have:=KL.1.size; omega⟩;have iU:Hid (NS V3 g a c L (k+1+50*(6-v9))):=Z9 (aI2.mono (by omega));have JJ:=Z9 (Xy.but KL (by have:=HG.out; omega));have yX:=Z9 (Wh.but KL (by have:=HG.out; omega));have HC3:=Z9 (YG hrow2 KL hrg);have uf:=Z9 ((But.of_below HB2.out (Nat.le_of_lt XA.out)).trans KL);have aI3:Hid (acc C0≠[]->∀ x,ca=some x->x.block≠g/\x.block≠g8/\(Value.slice none 0 0).ownBlock≠some x.block):=Z9 fun hne x hx=>⟨hrg hne x hx,by have:=HCO.out hne x hx; have:=HG.out; omega,fun z=>by cases z⟩;have HQ3:=Z9 hq;clear CN aI2 KL Xy Wh Uz hrow2 hB0 HB2 hq hrg;go_wp2_with fail;go_loopg [7,9,10] v9 (fun gg s7 s9 s10 wx=>∃ (i:Nat) (v7:Value) (E:List Bs) (B:List Ac) (co:Int) (ra:Option Addr) (rc:Nat),s7=v7/\s9=Z8 i/\i<=6/\E.length+i<=6/\B.length<=rc/\Hid (MG B co)/\Hid (OL wx B0 v7 E)/\Hid (NS wx g a c L (k+1+50*(6-i)))/\Hid (But g w wx)/\Hid (Bx wx g4 #[.slice ca (List.length C0) ck,Z7 cc,z0,z1,y0,y1,y2,Z7 p] 67)/\Hid (Bx wx g8 (ZT ra B.length rc co) 30)/\Hid (Cs wx ra (acc B))/\Hid (acc B≠[]->∀ x,ra=some x->x.block≠g/\x.block≠g8/\v7.ownBlock≠some x.block)/\Hid (B0<=wx.heap.size)/\i=gg)
 case atStart=>exact⟨v9,_,[],C0,cc,ca,ck,rfl,rfl,by omega,by simp only[List.length_nil]; omega,hck,HQ3,Z9 (OL.nil _ _),iU,uf,JJ,yX,HC3,aI3,Z9 LD.out.2.2,rfl⟩
 case round=>
  obtain⟨i,v7,E,B,co,ra,rc,rfl,rfl,hi6,hEi,hrc,HQ,HE,xQ,OM,Yh,Ul,HC,Uh,Ey,hgi⟩:=hrel;clear iU JJ yX HC3 uf aI3 HQ3 hck;have HGI:=Z9 hgi;clear hgi;by_cases hlt:0<i
  ·go_upto_region 4 with fail;refine wl<|ZV (Z8 i)<|ZM (Zn rfl (i) (0) dT)<|wn ?_;simp only[pu];have CR:=kR (rc:=rc) (co:=co) (p:=p) xQ.out hl (by omega) HC.out (fun hne x hx=>(Uh.out hne x hx).1) HQ.out.q (by have:=HQ.out.n; omega);go_upto_region 6 with fail;refine wl<|ZV (Z5 g 0)<|ZL rfl ⟨g8,0,none⟩ (.agg (ZT ra B.length rc co)) (ZO Ul.out)<|ZV (Z5 g4 7)<|ZL rfl ⟨g4,7,none⟩ (Z7 p) (Yh.out.ZR 7) <|
    XI (fun v w'=>∃ b d R,v=.slice b (List.length R) d/\Rw w' wr.heap.size b d R/\NS w' g a c L (k+1+50*(6-i)+45)/\But g wr w') (CR.mono fun e w' q=>by obtain⟨b,d,R,h1,h2⟩:=q; exact⟨_,h1,b,d,R,rfl,h2⟩) (fun vv V4 hq=>?_)
   obtain⟨b,d,R,rfl,hrw,aI4,GY⟩:=hq;refine ZV (.slice b R.length d)<|wn ?_;simp only[pu];have HE4:=Z9 (HE.out.but GY (by have:=HG.out; have:=LD.out; omega));have HB4:=Z9 (OM.out.trans GY);have ar9:=Z9 (Yh.out.but GY (by have:=HG.out; omega));have tC:=Z9 (Ul.out.but GY (by have:=HG.out; omega));have HC4:=Z9 (YG HC.out GY (fun hne x hx=>(Uh.out hne x hx).1));have as1:Hid (B0<=V4.heap.size):=Z9 (Nat.le_trans Ey.out GY.1.size);have HN4:=Z9 aI4;have HR4:=Z9 (hrw.base Ey.out);have gu:Hid (R≠[]->∀ x,b=some x->u7.ownBlock≠some x.block):=Z9 fun hne x hx z=>by
    have h1:=hrw.o hne x hx;rcases HE.out.own.2 with⟨e,-⟩ | ⟨q,cap,cur,e,-,hh,-⟩
    ·rw[e] at z; cases z
    ·rw[e] at z; simp only[Value.ownBlock,Option.some.injEq] at z; have:=(Array.getElem?_eq_some_iff.1 hh).1; omega
   obtain⟨a7,c7,rfl,-,-⟩:=HE4.out.bse;clear CR hrw aI4 GY HE xQ OM Yh Ul HC Ey;go_upto_region 7 with fail;go_cut [33] (fun s33 wx=>∃ tb:Bool,s33=.bool tb/\Hid (tb=true->0<E.length)/\Hid (Rw wx B0 b d R/\(R≠[]->∀ x,b=some x->(Value.slice a7 E.length c7).ownBlock≠some x.block)/\OL wx B0 (.slice a7 E.length c7) E/\NS wx g a c L (k+1+50*(6-i)+46)/\But g w wx/\Bx wx g4 #[.slice ca (List.length C0) ck,Z7 cc,z0,z1,y0,y1,y2,Z7 p] 67/\Bx wx g8 (ZT ra B.length rc co) 30/\Cs wx ra (acc B)/\B0<=wx.heap.size))
   case first=>
    by_cases hE0:0<E.length
    ·obtain⟨v8,hv8,CN⟩:=X5 HN4.out hl (by omega) 9 (by decide) (by decide);obtain⟨tb,htb⟩:=ZQ (decide ((v8:Int)=0));refine wl<|ZB (.slice a7 E.length c7) (Z8 E.length)<|ZM (Zn rfl E.length 0 dT)<|ZB ZW (Z5 g 0) <|
      YM (Z8 v8) (fun w'=>NS w' g a c L (k+1+50*(6-i)+45+1)/\But g V4 w') CN (fun V5 hq=>?_)
     obtain⟨Jg,Xc⟩:=hq;refine Yn (.bool tb) (ZI rfl v8 0 htb)<|ZV (.bool tb)<|wn ?_;simp only[pu];go_wp2_with fail;go_meet;exact⟨tb,rfl,Z9 fun _=>hE0,Z9 ⟨HR4.out.but Xc (by have:=HG.out; have:=LD.out; omega),gu.out,HE4.out.but Xc (by have:=HG.out; have:=LD.out; omega),Jg,HB4.out.trans Xc,ar9.out.but Xc (by have:=HG.out; omega),tC.out.but Xc (by have:=HG.out; omega),YG HC4.out Xc (fun hne x hx=>(Uh.out hne x hx).1),Nat.le_trans as1.out Xc.1.size⟩⟩
    ·refine wl<|ZB (.slice a7 E.length c7) (Z8 E.length)<|ZM (Zn rfl E.length 0 dF)<|Rf ZY undef undef undef ZY<|wn ?_;simp only[pu];go_wp2_with fail;go_meet;exact⟨false,rfl,Z9 (fun e=>nomatch e),Z9 ⟨HR4.out,gu.out,HE4.out,HN4.out.mono (by omega),HB4.out,ar9.out,tC.out,HC4.out,as1.out⟩⟩
   case rest=>
    obtain⟨tb,rfl,iV,HM⟩:=hcut;clear HE4 HB4 ar9 tC HC4 as1 HN4 HR4 gu;generalize wc=V5 at *
    go_upto_if 33 with fail;go_cut [10] (fun s10 wx=>∃ (b:Option Addr) (d:Nat) (R:List Int),s10=.slice b (List.length R) d/\Hid (Rw wx B0 b d R/\(R≠[]->∀ x,b=some x->(Value.slice a7 E.length c7).ownBlock≠some x.block)/\OL wx B0 (.slice a7 E.length c7) E/\NS wx g a c L (k+1+50*(6-i)+47)/\But g w wx/\Bx wx g4 #[.slice ca (List.length C0) ck,Z7 cc,z0,z1,y0,y1,y2,Z7 p] 67/\Bx wx g8 (ZT ra B.length rc co) 30/\Cs wx ra (acc B)/\B0<=wx.heap.size))
    case first=>
     obtain⟨Gf,hRa,hE,hns,hbt,hx4,hx8,hcs,hbs⟩:=HM.out;cases tb
     ·go_wp2_with fail;go_meet;exact⟨b,d,R,rfl,Z9 ⟨Gf,hRa,hE,hns.mono (Nat.le_succ _),hbt,hx4,hx8,hcs,hbs⟩⟩
     ·have hE0:=iV.out rfl;obtain⟨v6,hv6,CN⟩:=X5 hns hl (by omega) E.length (by omega) (by omega);have h6E:v6<E.length:=(by omega);go_upto_region 8 with fail;refine wl<|U8 (.slice a7 E.length c7) (Z5 g 0) (.slice a7 E.length c7) (Z8 E.length)<|YM (Z8 v6) (fun w'=>NS w' g a c L (k+1+50*(6-i)+46+1)/\But g V5 w') CN (fun V6 hq=>?_);obtain⟨fK,Xt⟩:=hq;have hE6:=hE.but Xt (by have:=HG.out; have:=LD.out; omega);obtain⟨a8,c8,e8,hbe,-⟩:=hE6.bse;obtain⟨rfl,-,rfl⟩:=(by simpa only[Value.slice.injEq] using e8);obtain⟨ob,off,rfl,hld⟩:=hbe.at h6E;have hm6:=NV h6E;refine YI (Z5 ob (off+v6*1)) (FD ob off E.length c7 v6 h6E _ _ _ rfl (by kernel_rfl) (by kernel_rfl))<|ZL rfl ⟨ob,off+v6*1,none⟩ (.slice (Ti E v6).1 (Ti E v6).2.2.length (Ti E v6).2.1) (hld) <|
       ZV (.slice (Ti E v6).1 (Ti E v6).2.2.length (Ti E v6).2.1)<|wn ?_
      simp only[pu];go_wp2_with fail;go_meet;exact⟨(Ti E v6).1,(Ti E v6).2.1,(Ti E v6).2.2,rfl,Z9 ⟨hE6.rw _ hm6,hE6.ap _ hm6,hE6,fK,hbt.trans Xt,hx4.but Xt (by have:=HG.out; omega),hx8.but Xt (by have:=HG.out; omega),YG hcs Xt (fun hne x hx=>(Uh.out hne x hx).1),Nat.le_trans hbs Xt.1.size⟩⟩
    case rest=>
     clear HM iV;obtain⟨b,d,R,rfl,HM⟩:=hcut;obtain⟨Gf,hRa,hE,hns,hbt,hx4,hx8,hcs,hbs⟩:=HM.out;have aQ9:=Z9 (Vh hcs);obtain⟨gz,hgz⟩:=ZQ wc.heap.size;have hbu:=Jy b R.length d wc;have XG:Below wc.heap.size wc (wc.alloc (.cells #[.slice b R.length d] 54)):=(Below.refl _ wc).alloc (Nat.le_refl _) _;have hcz:Cs (wc.alloc (.cells #[.slice b R.length d] 54)) (some ⟨wc.heap.size,0,none⟩) (EP [(b,d,R)]):=Cs.block (t:=54) (fr:=(0,0)) (heap_alloc_last wc _);obtain⟨a9,c9,Va,hap,hEa,hba,hgr,hat⟩:=yO (hE.below XG) (some ⟨wc.heap.size,0,none⟩) 1 [(b,d,R)] hcz (fun e he=>by rw[List.mem_singleton.1 he]; exact Gf.below XG) (fun e he=>by rw[List.mem_singleton.1 he]; exact hRa) (Nat.le_trans hbs XG.size) (by simp only[List.length_cons,List.length_nil]; omega);have aI5:=(World.grownBy_alloc wc _ _:wc.grownBy _ (Value.slice a7 E.length c7).ownBlock).trans hgr;have hcs2:=JI hcs aI5 (fun hne x hx=>(Uh.out hne x hx).2.2);have TP:=(XG.mono hbs).trans hba;have jC:Rw Va B0 b d R:=hEa.rw (b,d,R) (by simp);have Sv:acc B≠[]->∀ x,ra=some x->x.block≠g/\x.block≠g8/\(Value.slice a9 (E++[(b,d,R)]).length c9).ownBlock≠some x.block:=fun hne x hx=>⟨(Uh.out hne x hx).1,(Uh.out hne x hx).2.1,fun z=>by
      rcases hat with h | h
      ·rw[h] at z; exact(Uh.out hne x hx).2.2 z
      ·rw[h] at z;have h1:=aQ9.out hne x hx;have h2:=XG.size;simp only[Option.some.injEq] at z;omega⟩
     have Uz:=sD hns TP (by have:=HG.out; have:=LD.out; omega) (fun h5 x hx=>by have:=HAB.out h5 x hx; have:=LD.out; omega);have aa3:=hx4.below (by have:=HG.out; have:=LD.out; omega:g4<B0) TP;have aa4:=hx8.below LD.out.1 TP;have Uk:=hbt.more (TP.mono LD.out.2.1) (Nat.le_of_lt XA.out);have su:=Nat.le_trans hbs TP.size;rw[hgz] at hbu hap;clear HM hcs hgr aI5 hat XG hba hcz hE Gf hRa hns hbt hx4 hx8 hbs;go_upto_region 9 with fail;refine wl<|ZB (.slice a7 E.length c7) (.slice b R.length d) ?_;refine Zv (by kernel_rfl) (some 43) rfl 23 1 #[(0,.tmp 42)] rfl #[(0,.slice b R.length d)] (by kernel_rfl) (.slice (some ⟨gz,0,none⟩) 1 1) _ hbu ?_;refine Zh rfl (some 44) rfl 23 rfl (.tmp 41) (.tmp 43) 23 rfl (.slice a7 E.length c7) (.slice (some ⟨gz,0,none⟩) 1 1) (.slice a9 (E++[(b,d,R)]).length c9) Va (by kernel_rfl) (by kernel_rfl) hap ?_;refine ZV (.slice a9 (E++[(b,d,R)]).length c9)<|wn ?_;simp only[pu];have CA:=sF B co p R ra b rc d Va hcs2 hrc HQ.out.d qU.out jC.sl jC.le jC.b;have IU:=Z9 (HQ.out.tx qU.out jC.b);generalize (TF B co p R).1=X at *
     have Uz:=Uz.mono (show _<=k+1+50*(6-(i-1)) by omega);have hE1:(E++[(b,d,R)]).length+(i-1)<=6:=(by simp only[List.length_append,List.length_cons,List.length_nil]; omega);generalize E++[(b,d,R)]=E2 at *
     clear hap hbu hgz;go_upto_region 10 with fail;refine wl<|ZL rfl ⟨g8,0,none⟩ (.agg (ZT ra B.length rc co)) (ZO aa4)<|ZV (Z5 g4 7)<|ZL rfl ⟨g4,7,none⟩ (Z7 p) (aa3.ZR 7)<|ZV (.slice b R.length d) <|
      XI (fun v w'=>∃ ad kk,v=.agg (ZT ad X.1.length kk X.2)/\Cs w' ad (acc X.1)/\X.1.length<=kk/\((ad=ra/\X.1=B)∨∀ x,ad=some x->Va.heap.size<=x.block)/\Below Va.heap.size Va w') (CA.mono fun e w' q=>by obtain⟨ad,kk,h1,h2⟩:=q; exact⟨_,h1,ad,kk,rfl,h2⟩) (fun vv Vb hq=>?_)
     obtain⟨a2,k2,rfl,hct,hkt,hbl,hbb⟩:=hq;obtain⟨hst3,aI6⟩:=ZC (a':=a2) (n':=X.1.length) (k':=k2) (c':=X.2) (aa4.below aa4.lt hbb);refine Zk rfl (hst3)<|wn ?_;have Yk:But g8 Vb (Vb.setRow g8 (ZT a2 X.1.length k2 X.2)):=But.setRow Vb (ZT a2 X.1.length k2 X.2);have as2:acc X.1≠[]->∀ x,a2=some x->x.block≠g/\x.block≠g8/\(Value.slice a9 E2.length c9).ownBlock≠some x.block:=fun hne x hx=>by
      rcases hbl with⟨e1,e2⟩ | h9
      ·rw[e1] at hx; rw[e2] at hne; exact Sv hne x hx
      ·have h10:=h9 x hx;have h11:=HG.out;have h12:=LD.out;refine⟨by omega,by omega,fun z=>?_⟩;rcases hEa.own.2 with⟨e,-⟩ | ⟨q,cap,cur,e,-,hh,-⟩
       ·rw[e] at z; cases z
       ·rw[e] at z; simp only[Value.ownBlock,Option.some.injEq] at z; have:=(Array.getElem?_eq_some_iff.1 hh).1; omega
     have HC1:=Z9 (YG hct Yk (fun hne x hx=>(as2 hne x hx).2.1));have EI:=Z9 ((hEa.below hbb).but Yk LD.out.1);have fV:=Z9 ((Uz.below hbb).but Yk (by have:=HG.out; omega) (fun h5 x hx=>by have:=HAB.out h5 x hx; have:=HG.out; omega));have HB1:=Z9 (But.Sz (Uk.more (hbb.mono (Nat.le_trans LD.out.2.1 su)) (Nat.le_of_lt XA.out)) Yk (by have:=HG.out; omega) (by have:=HG.out; omega));have Fv:=Z9 ((aa3.below aa3.lt hbb).but Yk (by have:=HG.out; omega));have Vl:Hid (B0<=(Vb.setRow g8 (ZT a2 X.1.length k2 X.2)).heap.size):=Z9 (by rw[size_setRow]; exact Nat.le_trans su hbb.size);have aR0:=Z9 aI6;have y9:=Z9 as2;generalize Vb.setRow g8 (ZT a2 X.1.length k2 X.2)=V1 at *
     clear CA hct hbl hbb Yk hEa Uz Uk aa3 aa4 su hcs2 Sv as2 aI6 hst3 TP jC HQ;go_upto_region 5 with fail;refine wl<|ZV (Z8 i)<|Yn (Z8 (i-1:Nat)) (Q9 rfl i hlt (by omega))<|ZV (Z8 (i-1:Nat))<|wn ?_;simp only[pu];have aS6:=HGI;go_wp2_with fail;go_roundg (i-1)
     case measure=>have:=HGI.out; omega
     case rel=>exact⟨i-1,_,E2,X.1,X.2,a2,k2,rfl,rfl,by omega,hE1,hkt,IU,EI,fV,HB1,Fv,aR0,HC1,y9,Vl,rfl⟩
  ·go_upto_region 4 with fail;refine wl<|ZV (Z8 i)<|ZM (Zn rfl (i) (0) dF)<|wn ?_;simp only[pu];have HF:Hid (aI1 w g (.returned u7) wr):=Z9 ⟨_,E,rfl,HE.out.base LD.out.2.1,by omega,OM.out⟩;clear HE xQ OM Yh Ul HC Uh HQ;go_upto_region 11 with fail;refine wl<|ZB (u7) (u7)<|wn ?_;simp only[pu];go_wp2_with fail;go_ret;exact HF.out
theorem IZ (a b:Option Addr)(n m c d:Nat)(V:World):(Instr.buildSlice 23 2 #[(0,.slice a n c),(1,.slice b m d)]).run Tryz.prog V=.ok (.slice (some ⟨V.heap.size,0,none⟩) 2 2) (V.alloc (.cells #[.slice a n c,.slice b m d] 54)):=by
 obtain⟨i0,hi,hz0,hz1,hz2⟩:=info_parts AU;refine run_buildSlice V 23 54 2 _ #[.slice a n c,.slice b m d] i0 _ Tryz.underlying23 hi hz0 (by rw[hz1]; omega) (by rw[hz1]; omega) ?_;rw[hz1];kernel_rfl
theorem EO {V:World}{b:Option Addr}{d:Nat}{L:List Int}(hs:Sl V b d L)(hd:L.length<=d)(h8:∀ y,y∈L->W8 y):∃ V2,V.alloc (.cells #[.slice b L.length d,.slice b L.length d] 54)=V2/\Below V.heap.size V V2/\AQ V2 (some ⟨V.heap.size,0,none⟩) [(b,d,L),(b,d,L)]:=by
 have hb:Below V.heap.size V (V.alloc (.cells #[.slice b L.length d,.slice b L.length d] 54)):=(Below.refl _ V).alloc (Nat.le_refl _) _;have he:∀ e:Bs,e∈[(b,d,L),(b,d,L)]->e=(b,d,L):=fun e he=>by simpa using he
 exact⟨_,rfl,hb,Cs.block (t:=54) (fr:=(0,0)) (heap_alloc_last V _),fun e h=>by rw[he e h]; exact ZP hs hb,fun e h=>by rw[he e h]; exact hd,fun e h=>by rw[he e h]; exact h8⟩
def AO (w:World)(v:Value)(w':World):Prop:=∃ ad k a c,v=.tuple #[.agg (ZT ad 1 k 0),.slice a 2 c]/\Cs w' ad (acc kB)/\Cs w' a (U9 [r1,r2])/\Below w.heap.size w w'
theorem at6 {L:List Int}(hL:L=form kU){la b ra:Option Addr}{d:Nat}{w:World}(h1:Cs w la (acc kA))(hE:AQ w ra [(b,d,L),(b,d,L)]):Calls Tryz.prog 11 #[.agg (ZT la 1 1 0),Z7 0,.slice ra 2 2] w fun e w'=>∃ v,e=.returned v/\AO w v w':=
 (at7 kA 0 0 [(b,d,L),(b,d,L)] la ra 1 2 w h1 (by decide) au0 Xd hE (show 2<=100000 by decide)).mono fun e w' ⟨ad,k,v,q1,q2,q3,q4,q5⟩=>by
  subst hL;have e1:Ye kA 0 0 (lsB [(b,d,form kU),(b,d,form kU)]) [(b,d,form kU),(b,d,form kU)].length=(kB,0):=aJ3;have e2:TI kA 0 0 (lsB [(b,d,form kU),(b,d,form kU)]) [(b,d,form kU),(b,d,form kU)].length=[r1,r2]:=aJ4;rw[e1] at q1 q2 q3;rw[e2] at q4;obtain⟨a,c,rfl,h2,-⟩:=Yd q4;exact⟨_,q1,ad,k,a,c,rfl,q2,h2,q5⟩
theorem au1 {L:List Int}(hL:L=form kU){la b ra:Option Addr}{d:Nat}{w:World}(h1:Cs w la (acc kA))(hE:AQ w ra [(b,d,L),(b,d,L)]):Calls Tryz.prog 16 #[.agg (ZT la 1 1 0),Z7 0,.slice ra 2 2] w fun e w'=>∃ v,e=.returned v/\∃ ad k,v=.tuple #[.agg (ZT ad 0 k 0),Z8 1,Z8 14]/\Below w.heap.size w w':=
 (qP kA 0 0 [(b,d,L),(b,d,L)] la ra 1 2 w h1 (by decide) au0 Xd hE (show 2<=100000 by decide)).mono fun e w' ⟨ad,k,q1,q2,q3,q4⟩=>by
  subst hL;have e1:Jl kA 0 0 (lsB [(b,d,form kU),(b,d,form kU)])=(([],0),1,14):=aJ5;rw[e1] at q1;exact⟨_,q1,ad,k,rfl,q4⟩
theorem qO (a:Option Addr)(w:World)(h:Cs w a (QZ kU.tr)):Calls Tryz.prog 20 #[.agg (ZA kU a 1)] w fun e w'=>∃ v,e=.returned v/\∃ u,v=.tuple #[u,Z8 0]/\Own w' w.heap.size u (form kU)/\Below w.heap.size w w':=
 (KW kU a 1 w h af5.b).mono fun e w' ⟨u,q1,q2,q3⟩=>by
  rw[au2] at q1 q2;exact⟨_,q1,u,rfl,q2,q3⟩
theorem Ht {ρ:Operand->Value}{o:Oper}{x y:Operand}(ho:o.op=.binOp .eql 50 x y 50)(S:List Int)(hS:S.length=32)(hx:ρ x=.agg (ZF S))(hy:ρ y=.agg (ZF S))(w:World):(execOp ρ o).run Tryz.prog w=.ok (.value ZW) w:=by
 have h:=af6 ho S S hS hS hx hy w;rwa [beq_self_eq_true] at h
theorem AP (h1:DgQ 18)(h2:DgQ 19)(w:World)(hG:Glob w):Calls Tryz.prog 9 #[] w fun e w'=>e=.returned ZW/\Below w.heap.size w w':=by
 have HD:=Z9 (And.intro h1 h2);have HG:=Z9 hG;clear h1 h2 hG;go_enter Tryz.func9,Tryz.ntmps9;go_upto_region 1 with fail;have hb1:Below w.heap.size w (w.alloc (.cells (Zq (UF,1000,0)) 56)):=(Below.refl _ w).alloc (Nat.le_refl _) _;have hc1:Cs (w.alloc (.cells (Zq (UF,1000,0)) 56)) (some ⟨w.heap.size,0,none⟩) (acc kA):=Cs.block (t:=56) (fr:=(0,0)) (heap_alloc_last w _);have hbt:=SV (UF,1000,0) w;obtain⟨W1,hW1⟩:=ZQ (w.alloc (.cells (Zq (UF,1000,0)) 56));rw[hW1] at hb1 hc1 hbt;obtain⟨V2,hst,hb2,hbx⟩:=Vk W1 (some ⟨w.heap.size,0,none⟩) 1 1 0;refine wl<|ZV (.agg (Zq (UF,1000,0))) ?_;refine Zv (by kernel_rfl) (some 10) rfl 28 1 #[(0,.tmp 9)] rfl #[(0,.agg (Zq (UF,1000,0)))] (by kernel_rfl) (.slice (some ⟨w.heap.size,0,none⟩) 1 1) _ hbt ?_;refine ZV (.agg (ZT (some ⟨w.heap.size,0,none⟩) 1 1 0)) ?_;refine Zy rfl (some 1) rfl (Z5 W1.heap.size 0) (W1.alloc (.cells (ZT none 0 0 0) 30)) (by kernel_rfl) ?_;refine Zk rfl (hst)<|wn ?_;obtain⟨g0,hg0⟩:=ZQ w.heap.size;obtain⟨g1,hg1⟩:=ZQ W1.heap.size;have HB2:=Z9 (hb1.trans (hb2.mono hb1.size));have HC2:=Z9 (hc1.below hb2);have Wy:=Z9 hbx;rw[hg1] at Wy ⊢;rw[hg0] at HC2 Wy ⊢;clear hst hb2 hbx hb1 hc1 hbt hW1 hg0 hg1;have hb3:Below V2.heap.size V2 (V2.alloc (.cells (Yy (UF,5)) 60)):=(Below.refl _ V2).alloc (Nat.le_refl _) _;have hc3:Cs (V2.alloc (.cells (Yy (UF,5)) 60)) (some ⟨V2.heap.size,0,none⟩) (QZ kU.tr):=Cs.block (t:=60) (fr:=(0,0)) (heap_alloc_last V2 _);have hbt:=QY (UF,5) V2;obtain⟨V3,VQ⟩:=ZQ (V2.alloc (.cells (Yy (UF,5)) 60));rw[VQ] at hb3 hc3 hbt;have CE:=qO _ V3 hc3;go_upto_region 2 with fail;refine wl<|ZV (.agg (Yy (UF,5))) ?_;refine Zv (by kernel_rfl) (some 14) rfl 61 1 #[(0,.tmp 13)] rfl #[(0,.agg (Yy (UF,5)))] (by kernel_rfl) (.slice (some ⟨V2.heap.size,0,none⟩) 1 1) _ hbt ?_;refine ZV (.agg (ZA kU (some ⟨V2.heap.size,0,none⟩) 1))<|XI (fun v w'=>∃ u,v=.tuple #[u,Z8 0]/\Own w' V3.heap.size u (form kU)/\Below V3.heap.size V3 w') CE (fun v4 V4 hq=>?_);obtain⟨u3,rfl,hO3,hb4⟩:=hq;obtain⟨b3,d3,rfl,hs3,hd3⟩:=hO3.sl;obtain⟨L,hLL⟩:∃ L,L=form kU:=⟨_,rfl⟩;rw[<- hLL] at hs3 hd3 ⊢;refine Rf (.tuple #[.slice b3 L.length d3,Z8 0]) (.slice b3 L.length d3) (Z8 0) (.slice b3 L.length d3) (Z8 0)<|wn ?_;simp only[pu];have Pn:=hb3.trans (hb4.mono hb3.size);have HB4:=Z9 (HB2.out.trans (Pn.mono HB2.out.size));have h8:∀ y,y∈L->W8 y:=by rw[hLL]; exact UQ af5.vf
 obtain⟨V5,iL,hb5,hE5⟩:=EO hs3 hd3 h8;have hbu:=IZ b3 b3 L.length L.length d3 d3 V4;rw[iL] at hbu;have HC5:=HC2.out.below (Pn.trans (hb5.mono Pn.size));have af7:=Z9 (Wy.out.below Wy.out.lt Pn);have af8:=Z9 (af7.out.below af7.out.lt hb5);have CA:=at6 hLL HC5 hE5;have Q8:=Z9 (HB4.out.trans (hb5.mono HB4.out.size));have AL:Hid (Sl V5 b3 d3 L/\L.length<=d3/\∀ y,y∈L->W8 y):=Z9 ⟨ZP hs3 hb5,hd3,h8⟩;have HLL:=Z9 hLL;have HC5:=Z9 HC5;obtain⟨ga,hga⟩:=ZQ V4.heap.size;rw[hga] at hbu CA;clear HB2 HB4 HC2 Wy Pn hb3 hb4 hc3 hbt VQ CE hO3 hs3 hd3 hLL iL hb5 hE5 hga h8;go_upto_region 3 with fail;refine wl<|ZL rfl ⟨g1,0,none⟩ (.agg (ZT (some ⟨g0,0,none⟩) 1 1 0)) (ZO af7.out)<|ZB (.slice b3 L.length d3) (.slice b3 L.length d3) ?_;refine Zv (by kernel_rfl) (some 23) rfl 23 2 #[(0,.tmp 21),(1,.tmp 22)] rfl #[(0,.slice b3 L.length d3),(1,.slice b3 L.length d3)] (by kernel_rfl) (.slice (some ⟨ga,0,none⟩) 2 2) _ hbu ?_;refine XI (AO V5) CA (fun v9 V6 hq=>?_);obtain⟨ad,k,a5,c5,rfl,hc6,IY,hb6⟩:=hq;obtain⟨V7,WZ,hb7,hx7⟩:=Vk V6 ad 1 k 0;refine Yr (.tuple #[.agg (ZT ad 1 k 0),.slice a5 2 c5]) (.agg (ZT ad 1 k 0)) (.slice a5 2 c5) ?_;refine Zy rfl (some 4) rfl (Z5 V6.heap.size 0) (V6.alloc (.cells (ZT none 0 0 0) 30)) (by kernel_rfl) ?_;refine Zk rfl (WZ)<|ZV (.slice a5 2 c5)<|wn ?_;simp only[pu];have vY:=hb6.trans (hb7.mono hb6.size);have qN:=af8.out.below af8.out.lt vY;obtain⟨g4,hg4⟩:=ZQ V6.heap.size;rw[hg4] at hx7 ⊢;have TG:=Z9 (Q8.out.trans (vY.mono Q8.out.size));obtain⟨V8,hV8,hb8,hE8⟩:=EO (ZP AL.out.1 vY) AL.out.2.1 AL.out.2.2;have hbu:=IZ b3 b3 L.length L.length d3 d3 V7;rw[hV8] at hbu;have CB:=au1 HLL.out (HC5.out.below (vY.trans (hb8.mono vY.size))) hE8;obtain⟨gb,hgb⟩:=ZQ V7.heap.size;rw[hgb] at hbu CB;have Qr:=Z9 (TG.out.trans (hb8.mono TG.out.size));have qN:=Z9 qN;have aJ6:=Z9 (qN.out.below qN.out.lt hb8);have Pm:=Z9 (hx7.below hx7.lt hb8);have HC8:=Z9 (hc6.below (hb7.trans (hb8.mono hb7.size)));have Hr:=Z9 (IY.below (hb7.trans (hb8.mono hb7.size)));clear CA WZ vY hb6 hb7 hc6 IY hx7 hV8 hE8 hb8 hg4 hgb af8 AL HC5 Q8 TG;go_upto_region 4 with fail;refine wl<|ZL rfl ⟨g1,0,none⟩ (.agg (ZT (some ⟨g0,0,none⟩) 1 1 0)) (ZO qN.out)<|ZB (.slice b3 L.length d3) (.slice b3 L.length d3) ?_;refine Zv (by kernel_rfl) (some 31) rfl 23 2 #[(0,.tmp 29),(1,.tmp 30)] rfl #[(0,.slice b3 L.length d3),(1,.slice b3 L.length d3)] (by kernel_rfl) (.slice (some ⟨gb,0,none⟩) 2 2) _ hbu ?_;refine XI (fun v w'=>∃ ad k,v=.tuple #[.agg (ZT ad 0 k 0),Z8 1,Z8 14]/\Below V8.heap.size V8 w') CB (fun v9 V9 hq=>?_);obtain⟨ad2,k2,rfl,XG⟩:=hq;obtain⟨Va,au3,hba,hxa⟩:=Vk V9 ad2 0 k2 0;refine U8 (.tuple #[.agg (ZT ad2 0 k2 0),Z8 1,Z8 14]) (.agg (ZT ad2 0 k2 0)) (Z8 1) (Z8 14) ?_;refine Zy rfl (some 6) rfl (Z5 V9.heap.size 0) (V9.alloc (.cells (ZT none 0 0 0) 30)) (by kernel_rfl) ?_;refine Zk rfl (au3)<|ZB (Z8 1) (Z8 14)<|wn ?_;simp only[pu];have vX:=XG.trans (hba.mono XG.size);have au4:=Z9 (Pm.out.below Pm.out.lt vX);obtain⟨o5,p5,rfl,-,q50⟩:=OJ (Hr.out.below vX) (k:=0) (by decide);obtain⟨o51,p51,e51,-,q51⟩:=OJ (Hr.out.below vX) (k:=1) (by decide);simp only[Option.some.injEq,Addr.mk.injEq,and_true] at e51;obtain⟨rfl,rfl⟩:=e51;obtain⟨oa,pa,rfl,-,qa⟩:=Yx (HC8.out.below vX) (k:=0) (by decide);have HQ0:=Z9 (Yz (q50 0 _ rfl) (by kernel_rfl):(Instr.loadAt 42 (Z5 o5 (p5+0*5))).run Tryz.prog Va=.ok (Z8 0) Va);have Jq:=Z9 (Yz (q51 0 _ rfl) (by kernel_rfl):(Instr.loadAt 42 (Z5 o5 (p5+1*5))).run Tryz.prog Va=.ok (Z8 14) Va);have Hq:=Z9 (Yz (qa 2 _ rfl) (by kernel_rfl):(Instr.loadAt 24 (Z5 oa (pa+0*3+2))).run Tryz.prog Va=.ok (Z7 1) Va);have HBa:=Z9 (Qr.out.trans (vX.mono Qr.out.size));have C1:=HD.out.1 Va (HG.out.below HG.out.size HBa.out);have C2:=fun V (h:Below w.heap.size w V)=>HD.out.2 V (HG.out.below HG.out.size h);have HS:=Z9 (WY []);generalize WO []=S at *
 clear CB au3 XG hba hxa vX q50 q51 qa Qr aJ6 Pm HC8 Hr HLL;go_upto_region 5 with fail;refine wl<|ZB (.slice (some ⟨o5,p5,none⟩) 2 c5) (Z8 2)<|ZM (ZI rfl (2) (2) (decide_eq_true (rfl)))<|ZB ZW (.slice (some ⟨o5,p5,none⟩) 2 c5) <|
  YI (Z5 o5 (p5+0*5)) (Ho o5 p5 2 c5 0 (by decide) _ _ _ rfl (by kernel_rfl) (by kernel_rfl))<|ZV (Z5 o5 (p5+0*5))<|ZL rfl ⟨o5,p5+0*5,none⟩ (Z8 0) (HQ0.out) <|
  ZM (EN rfl (0) (0) (decide_eq_true (rfl)))<|Yr ZW ZW (.slice (some ⟨o5,p5,none⟩) 2 c5)<|YI (Z5 o5 (p5+1*5)) (Ho o5 p5 2 c5 1 (by decide) _ _ _ rfl (by kernel_rfl) (by kernel_rfl)) <|
  ZV (Z5 o5 (p5+1*5))<|ZL rfl ⟨o5,p5+1*5,none⟩ (Z8 14) (Jq.out)<|ZM (EN rfl (14) (14) (decide_eq_true (rfl)))<|Yr ZW ZW (Z8 1) <|
  ZM (ZI rfl (1) (1) (decide_eq_true (rfl)))<|Yr ZW ZW (Z8 14)<|ZM (EN rfl (14) (14) (decide_eq_true (rfl))) <|
  Yr ZW ZW (Z5 g4 0)<|ZL rfl ⟨g4,0,none⟩ (.slice (some ⟨oa,pa,none⟩) 1 k) (au4.out.ZR 0)<|ZV (Z8 1)<|ZM (ZI rfl (1) (1) (decide_eq_true (rfl))) <|
  Yr ZW ZW (Z5 g4 0)<|ZL rfl ⟨g4,0,none⟩ (.slice (some ⟨oa,pa,none⟩) 1 k) (au4.out.ZR 0)<|YI (Z5 oa (pa+0*3)) (YC oa pa 1 k 0 (by decide) _ _ _ rfl (by kernel_rfl) (by kernel_rfl)) <|
  ZV (Z5 oa (pa+0*3+2))<|ZL rfl ⟨oa,pa+0*3+2,none⟩ (Z7 1) (Hq.out)<|ZM (KU rfl (1) (1) (decide_eq_true (rfl)))<|ZB ZW ZW <|
  YM (.agg (ZF S)) (fun w'=>Below Va.heap.size Va w') C1 (fun Vb hVb=>?_)
 have hbb:=HBa.out.trans (hVb.mono HBa.out.size);refine YM (.agg (ZF S)) (fun w'=>Below Vb.heap.size Vb w') (C2 Vb hbb) (fun Vc hVc=>?_);have HE:=Z9 (hbb.trans (hVc.mono hbb.size));clear hVb hVc hbb;refine Yn ZW (Ht rfl S HS.out)<|ZB ZW ZW<|wn ?_;simp only[pu];go_wp2_with fail;go_ret;exact⟨rfl,HE.out⟩
def aI7 (w:World)(e:Ending)(w':World):Prop:=∃ la lk B cc p v E,e=.returned (.tuple #[.agg (ZT la (List.length B) lk cc),Z7 p,v])/\Cs w' la (acc B)/\B.length<=lk/\MG B cc/\0<=p/\p<=3/\OL w' w.heap.size v E/\E.length<=6/\Below w.heap.size w w'
structure KM (w:World)(gs g2 g7:Nat)(a:Option Addr)(c:Nat)(L:List Int)(cs lc:Array Value)(la:Option Addr)(B:List Ac)(b6 b7 b9:Bool)(x17:Value)(V:World):Prop where
 bel:Below w.heap.size w V
 ns:b6=false->NS V gs a c L 110
 led:Cs V la (acc B)
 bx7:Bx V g7 cs 67
 y7:Bx V g2 (cond b7 lc (ZT none 0 0 0)) 30
 rw:b6=true->∃ E,OL V (gs+1) x17 E/\E.length<=6
 o9:b9=true->b6=true
section
variable {w : World} {gs g2 g7 : Nat} {a : Option Addr} {c : Nat} {L : List Int} {cs lc : Array Value} {la : Option Addr} {B : List Ac} {b6 b7 b9 : Bool} {x17 : Value} {V : World}
theorem KM.start (h1:Below w.heap.size w V)(h2:NS V gs a c L 110)(h3:Cs V la (acc B))(h4:Bx V g7 cs 67)(h5:Bx V g2 (ZT none 0 0 0) 30):KM w gs g2 g7 a c L cs lc la B false false false x17 V.drew:=
 ⟨h1.drew,fun _=>h2,h3,h4,h5,(fun e=>nomatch e),(fun e=>nomatch e)⟩
theorem KM.raw (h:KM w gs g2 g7 a c L cs lc la B false b7 b9 x17 V)(hg:w.heap.size<=gs)(h2:g2≠gs)(h7:g7≠gs)(hn:acc B≠[]->∀ x,la=some x->x.block≠gs){V2:World}{v:Value}{E:List Bs}(hr:OL V2 V.heap.size v E)(h6:E.length<=6)(hb:But gs V V2):KM w gs g2 g7 a c L cs lc la B true b7 b9 v V2:=by
 obtain rfl:=ff h.o9 rfl;exact⟨h.bel.trans (hb.1.mono hg),(fun e=>nomatch e),YG h.led hb hn,h.bx7.but hb h7,h.y7.but hb h2,fun _=>⟨E,hr.base (h.ns rfl).lt,h6⟩,(fun e=>nomatch e)⟩
theorem KM.st {n k:Nat}{cc:Int}(h:KM w gs g2 g7 a c L cs (ZT la n k cc) la B b6 false b9 x17 V)(h2:w.heap.size<=g2)(hg:g2<gs)(h7:g7≠g2)(hn:acc B≠[]->∀ x,la=some x->x.block≠g2)(ha:L≠[]->∀ x,a=some x->x.block<w.heap.size):∃ V2,(Instr.storeAt 30 (Z5 g2 0) (.agg (ZT la n k cc))).run Tryz.prog V=.ok () V2/\KM w gs g2 g7 a c L cs (ZT la n k cc) la B b6 true b9 x17 V2:=by
 have hst:=ZC (a':=la) (n':=n) (k':=k) (c':=cc) h.y7;have hbt:But g2 V (V.setRow g2 (ZT la n k cc)):=But.setRow _ _;refine⟨_,hst.1,ZU h.bel h2 _,fun e=>?_,YG h.led hbt hn,h.bx7.but hbt h7,hst.2,fun e=>?_,h.o9⟩
 ·obtain⟨N,n1,n2,n3,n4⟩:=h.ns e;exact⟨N,n1,n2.but hbt (by omega),Ov n3 hbt (fun e x hx=>by have:=ha e x hx; omega),n4⟩
 ·obtain⟨E,hr,h6⟩:=h.rw e;exact⟨E,hr.but hbt (by omega),h6⟩
end
theorem jB (a:Option Addr)(c:Nat)(L:List Int)(w:World)(hL:Cs w a (Xb L))(hl:L.length<=100000) :
  Calls Tryz.prog 10 #[.slice a L.length c] w (aI7 w):=by
 have hb0:Below w.heap.size w (w.alloc (.cells (ZT none 0 0 0) 30)):=(Below.refl _ w).alloc (Nat.le_refl _) _;have hX0:Bx (w.alloc (.cells (ZT none 0 0 0) 30)) w.heap.size (ZT none 0 0 0) 30:=heap_alloc_last w _;have HAB:Hid (L≠[]->∀ x,a=some x->x.block<w.heap.size):=Z9 fun hne x hx=>by
  have:=Vh hL (by cases L with | nil=>exact absurd rfl hne | cons y r=>simp[Xb]) x hx;exact this
 have CF:=dB a L.length c (w.alloc (.cells (ZT none 0 0 0) 30));have hsz:(w.alloc (.cells (ZT none 0 0 0) 30)).heap.size=w.heap.size+1:=by simp
 have hL0:=hL.below hb0;go_enter Tryz.func10,Tryz.ntmps10;go_upto_region 1 with fail;change Code.wp _ _ _ _ (w.alloc (.cells (ZT none 0 0 0) 30));generalize w.alloc (.cells (ZT none 0 0 0) 30)=W at *
 obtain⟨g2,hg2⟩:=ZQ w.heap.size;obtain⟨gs,hgs⟩:=ZQ W.heap.size;have HG:Hid (w.heap.size<=g2/\g2<gs/\w.heap.size<=gs):=Z9 (by omega);have hb1:Below W.heap.size W (W.alloc (.cells #[.slice a L.length c,Z8 0] 82)):=(Below.refl _ W).alloc (Nat.le_refl _) _;have hX1:Bx (W.alloc (.cells #[.slice a L.length c,Z8 0] 82)) W.heap.size #[.slice a L.length c,Z8 0] 82:=heap_alloc_last W _;have hns:NS (W.alloc (.cells #[.slice a L.length c,Z8 0] 82)) W.heap.size a c L 0:=⟨0,Nat.le_refl _,hX1,hL0.below hb1,fun hne x hx=>by have:=HAB.out hne x hx; omega⟩;rw[hgs] at CF hns;rw[hg2] at hX0;simp only[hg2];have hX2:=hX0.below hX0.lt hb1;have hbw:=hb0.trans (hb1.mono hb0.size);generalize W.alloc (.cells #[.slice a L.length c,Z8 0] 82)=W1 at *
 have CA:=ao4 hns hl (by omega);clear hb0 hb1 hX0 hX1 hL0 hg2 hsz hgs hns;refine wl<|ZV (.slice a L.length c)<|YM (Z5 gs 0) (fun w'=>w'=W1) CF (fun V9 VK=>?_);subst VK;refine ZV (Z5 gs 0)<|wn ?_;simp only[pu];go_upto_region 2 with fail;refine wl<|ZV (Z5 gs 0)<|XI (fun v w'=>∃ p q2 q3,PO V9.heap.size gs q2 q3 p w' v/\0<=p/\p<=3/\NS w' gs a c L 110/\But gs V9 w') (CA.mono fun e w' q=>by obtain⟨v,p,q2,q3,h1,h2⟩:=q; exact⟨v,h1,p,q2,q3,by simpa using h2⟩) (fun vv W2 hq=>?_);obtain⟨p,q2,q3,⟨_,_,la,iP,y0,y1,y2,B2,c2,rfl,hone,-,-,-,-,ca,lk,B,cc,rfl,rfl,hcs,hlk,hlq,hbl⟩,hp0,hp3,hns,hbt⟩:=hq;obtain⟨hst3,EU⟩:=WB (heap_alloc_last W2 _:Bx (W2.alloc (.cells #[.slice none 0 0,Z7 0,.slice none 0 0,Z7 0,.slice none 0 0,Z7 0,ZY,Z7 0] 67)) W2.heap.size _ 67) rfl hone;refine Zy rfl (some 6) rfl (Z5 W2.heap.size 0) (W2.alloc (.cells (#[.slice none 0 0,Z7 0,.slice none 0 0,Z7 0,.slice none 0 0,Z7 0,ZY,Z7 0]) 67)) (by kernel_rfl) ?_;refine Zk rfl (hst3)<|wn ?_;have TP:Below W2.heap.size W2 ((W2.alloc (.cells #[.slice none 0 0,Z7 0,.slice none 0 0,Z7 0,.slice none 0 0,Z7 0,ZY,Z7 0] 67)).setRow W2.heap.size (YT (.slice ca (List.length B) lk) (Z7 cc) la B2.length iP c2 y0 y1 y2 p)):=ZU ((Below.refl _ W2).alloc (Nat.le_refl _) _) (Nat.le_refl _) _;have hsb:=hX2.but hbt (Nat.ne_of_lt HG.out.2.1);have hW2:=hbt.1.size;have hb5:=(hbw.trans (hbt.1.mono HG.out.2.2)).trans (TP.mono (by have:=(hbw.trans (hbt.1.mono HG.out.2.2)).size; omega));generalize (W2.alloc (.cells #[.slice none 0 0,Z7 0,.slice none 0 0,Z7 0,.slice none 0 0,Z7 0,ZY,Z7 0] 67)).setRow W2.heap.size (YT (.slice ca (List.length B) lk) (Z7 cc) la B2.length iP c2 y0 y1 y2 p)=V4 at *
 obtain⟨g7,P6⟩:=ZQ W2.heap.size;have HG7:Hid (gs<g7/\g2<g7):=Z9 (by have:=hns.lt; have:=HG.out; omega);have Jg:=hns.below TP;have aI8:=hcs.below TP;have jO:=hsb.below hsb.lt TP;rw[P6] at EU ⊢;have uY:Hid (acc B≠[]->∀ x,ca=some x->x.block≠gs/\x.block≠g2):=Z9 fun hne x hx=>⟨(hbl hne x hx).1,by have h1:=(hbl hne x hx).2.2.2; have h2:=hX2.lt; omega⟩;obtain⟨q10,hq10⟩:=ZQ (Value.agg (YT (.slice ca (List.length B) lk) (Z7 cc) la B2.length iP c2 y0 y1 y2 p));simp only[hq10];go_upto_region 3 with fail;have h0:KM w gs g2 g7 a c L (YT (.slice ca (List.length B) lk) (Z7 cc) la B2.length iP c2 y0 y1 y2 p) (ZT ca B.length lk cc) ca B false false false undef V4.drew:=KM.start hb5 Jg aI8 EU jO;have HQ:=Z9 hlq;have qU:Hid (W64 p):=Z9 ⟨hp0,by omega⟩;have HNE:Hid (g2≠gs/\g7≠gs/\g7≠g2):=Z9 (by have:=HG.out; have:=HG7.out; omega);clear CF CA hq10 hst3 TP hsb hW2 hb5 hns hbt hcs hbl Jg aI8 jO hX2 EU hbw hone;refine Zw (fun listed YZ V=>∃ b0 b1 b2 b3 b4 b5 b6 b7 b8 b9:Bool,∃ x17:Value,listed=#[b0,b1,b2,b3,b4,b5,b6,b7,b8,b9]/\YZ={ tmps:=#[.slice a L.length c,undef,Z5 g2 0,(cond b8 (Z7 p) (Z7 0)),(cond b9 (x17) (.slice none 0 0)),Z5 gs 0,Z5 g7 0,.slice a L.length c,Z5 gs 0,Z5 gs 0,q10,(cond b0 (Z5 g7 0) undef),(cond b1 (.agg (ZT ca B.length lk cc)) undef),(cond b2 (Z5 g7 7) undef),(cond b3 (Z7 p) undef),(cond b4 (Z5 gs 0) undef),(cond b5 (.agg (YT (.slice ca (List.length B) lk) (Z7 cc) la B2.length iP c2 y0 y1 y2 p)) undef),x17],defers:=[] }/\KM w gs g2 g7 a c L (YT (.slice ca (List.length B) lk) (Z7 cc) la B2.length iP c2 y0 y1 y2 p) (ZT ca B.length lk cc) ca B b6 b7 b9 x17 V) (by kernel_rfl) (by kernel_rfl) ?_ ?_ ?_
 ·exact⟨_,_,_,_,_,_,_,_,_,_,_,rfl,rfl,h0⟩
 ·intro i9 listed YZ V hi9 hr hJ;obtain⟨b0,b1,b2,b3,b4,b5,b6,b7,b8,b9,x17,rfl,rfl,hF⟩:=hJ;have hi2:i9<10:=hi9;have hi3:i9=0∨i9=1∨i9=2∨i9=3∨i9=4∨i9=5∨i9=6∨i9=7∨i9=8∨i9=9:=by omega
  rcases hi3 with rfl | rfl | rfl | rfl | rfl | rfl | rfl | rfl | rfl | rfl
  ·obtain rfl:b0=false:=Z4 hr;refine ZK rfl (by kernel_rfl) (some 11) rfl (Z5 g7 0) V (by kernel_rfl) ?_;exact⟨_,_,_,_,_,_,_,_,_,_,_,rfl,rfl,hF⟩
  ·obtain rfl:b1=false:=Z4 hr;obtain rfl:b0=true:=ZX hr 0;refine Zu rfl (by kernel_rfl) (some 12) rfl 30 (.tmp 11) rfl ⟨g7,0,none⟩ (.agg (ZT ca B.length lk cc)) (by kernel_rfl) (BH hF.bx7) ?_;exact⟨_,_,_,_,_,_,_,_,_,_,_,rfl,rfl,hF⟩
  ·obtain rfl:b2=false:=Z4 hr;refine ZK rfl (by kernel_rfl) (some 13) rfl (Z5 g7 7) V (by kernel_rfl) ?_;exact⟨_,_,_,_,_,_,_,_,_,_,_,rfl,rfl,hF⟩
  ·obtain rfl:b3=false:=Z4 hr;obtain rfl:b2=true:=ZX hr 2;refine Zu rfl (by kernel_rfl) (some 14) rfl 24 (.tmp 13) rfl ⟨g7,7,none⟩ (Z7 p) (by kernel_rfl) (FB hF.bx7) ?_;exact⟨_,_,_,_,_,_,_,_,_,_,_,rfl,rfl,hF⟩
  ·obtain rfl:b4=false:=Z4 hr;refine ZK rfl (by kernel_rfl) (some 15) rfl (Z5 gs 0) V (by kernel_rfl) ?_;exact⟨_,_,_,_,_,_,_,_,_,_,_,rfl,rfl,hF⟩
  ·obtain rfl:b5=false:=Z4 hr;refine Zu rfl (by kernel_rfl) (some 16) rfl 67 (.tmp 6) rfl ⟨g7,0,none⟩ (.agg (YT (.slice ca (List.length B) lk) (Z7 cc) la B2.length iP c2 y0 y1 y2 p)) (by kernel_rfl) (WT hF.bx7) ?_;exact⟨_,_,_,_,_,_,_,_,_,_,_,rfl,rfl,hF⟩
  ·obtain rfl:b6=false:=Z4 hr;obtain rfl:b4=true:=ZX hr 4;obtain rfl:b5=true:=ZX hr 5;obtain rfl:b9=false:=ff hF.o9 rfl;refine X8 rfl (by kernel_rfl) (some 17) rfl 23 #[Z5 gs 0,.agg (YT (.slice ca (List.length B) lk) (Z7 cc) la B2.length iP c2 y0 y1 y2 p),Z8 6] (by kernel_rfl) ((aa2 (hF.ns rfl) hl (by omega) hF.led hlk (fun hne x hx=>(uY.out hne x hx).1) HQ.out qU.out).mono fun e w' z=>?_);obtain⟨v,E,rfl,hr,h6,hb⟩:=z;exact⟨_,rfl,_,_,_,_,_,_,_,_,_,_,_,rfl,rfl,hF.raw HG.out.2.2 HNE.out.1 HNE.out.2.1 (fun hne x hx=>(uY.out hne x hx).1) hr h6 hb⟩
  ·obtain rfl:b7=false:=Z4 hr;obtain rfl:b1=true:=ZX hr 1;obtain⟨V2,hst,hF2⟩:=hF.st HG.out.1 HG.out.2.1 HNE.out.2.2 (fun hne x hx=>(uY.out hne x hx).2) (fun h5 x hx=>HAB.out h5 x hx);refine YU rfl (by kernel_rfl) rfl 30 (.tmp 2) (.tmp 12) rfl (Z5 g2 0) (.agg (ZT ca B.length lk cc)) (by kernel_rfl) (by kernel_rfl) _ hst ?_;exact⟨_,_,_,_,_,_,_,_,_,_,_,rfl,rfl,hF2⟩
  ·obtain rfl:b8=false:=Z4 hr;obtain rfl:b3=true:=ZX hr 3;refine ZK rfl (by kernel_rfl) (some 3) rfl (Z7 p) V (by kernel_rfl) ?_;exact⟨_,_,_,_,_,_,_,_,_,_,_,rfl,rfl,hF⟩
  ·obtain rfl:b9=false:=Z4 hr;obtain rfl:b6=true:=ZX hr 6;refine ZK rfl (by kernel_rfl) (some 4) rfl x17 V (by kernel_rfl) ?_;exact⟨_,_,_,_,_,_,_,_,_,_,_,rfl,rfl,{ hF with o9:=fun _=>rfl }⟩
 ·intro YZ V hJ;obtain⟨b0,b1,b2,b3,b4,b5,b6,b7,b8,b9,x17,he,rfl,hF⟩:=hJ;have he:(#[true,true,true,true,true,true,true,true,true,true]:Array Bool)=#[b0,b1,b2,b3,b4,b5,b6,b7,b8,b9]:=he;simp only[Array.mk.injEq,List.cons.injEq,and_true] at he;obtain⟨rfl,rfl,rfl,rfl,rfl,rfl,rfl,rfl,rfl,rfl⟩:=he;simp only[cond_true];obtain⟨E,hr,h6⟩:=hF.rw rfl;have hbx:=hF.y7;simp only[cond_true] at hbx;have HE:Hid (aI7 w (.returned (.tuple #[.agg (ZT ca B.length lk cc),Z7 p,x17])) V):=Z9 ⟨ca,lk,B,cc,p,x17,E,rfl,hF.led,hlk,HQ.out,hp0,hp3,hr.base (by have:=HG.out; omega),h6,hF.bel⟩;clear hF hr;go_wp2_with fail;exact bodyPost_ret (OV rfl (by kernel_rfl) (ZO hbx) rfl rfl) rfl HE.out
end Go.Proofs.YtfpnnmeblefkkaaGreatDoor.Lg
namespace Go.Proofs.YtfpnnmeblefkkaaGreatDoor.Lg
open Mo (YK YR Yl Yw)
open Go.RowKit
end Go.Proofs.YtfpnnmeblefkkaaGreatDoor.Lg
namespace Go.Proofs.YtfpnnmeblefkkaaGreatDoor.Lg
open Mo (YK YR Yl Yw)
open Go.RowKit
end Go.Proofs.YtfpnnmeblefkkaaGreatDoor.Lg
namespace Go.Proofs.YtfpnnmeblefkkaaGreatDoor.Lg
open Go.ChangeShapes Go.WideShapes Go.ChangeAt Go.Deep Go.Joins
open Go.RowKit
theorem jw {H:Type}{enc:TypeId×Value->H}{W:World}{fuel:Nat}{cs:List Value}{y:DataW H×List MemPlace}(h:DataW.trod enc Tryz.prog W 0 (fun _=>true) true fuel 22 cs=some y) :
  ∃ a cap L,cs=[.slice a (List.length L) cap]/\L.length<=9223372036854775807/\Cs W a (Xb L):=by
 rcases open_ints Tryz.underlying22 Tryz.underlying3 (by kernel_rfl) h with⟨rfl,rfl⟩ | ⟨x,l,c,zs,rfl,_,hl,hm,hz,rfl,hcell,hwz⟩
 ·exact⟨none,0,[],rfl,by simp,Cs.nil _ _⟩
 ·have hz':zs.length=c:=by simpa using hz
  have hlen:(zs.take l).length=l:=by rw[List.length_take]; omega
  refine⟨some x,c,zs.take l,by rw[hlen],by rw[hlen]; unfold maxLen at hm; omega,fun j v hj=>?_⟩;have hjl:j<(zs.take l).length:=by
   have:=(List.getElem?_eq_some_iff.1 hj).1;simpa [Xb] using this
  have hjz:j<zs.length:=by omega
  obtain⟨b,off,rfl,hc⟩:=ints_at hcell (by omega);rw[Ik _ _ hjl] at hj;simp only[Option.some.injEq] at hj;have hcj:=hc j hjz;refine⟨b,off,rfl,World.block_lt_of_cell? W _ hcj,?_⟩;rw[hcj,<- hj];simp[List.getD,show j<l by omega]
theorem rZ {x:Int}(h:(Lit.int .u64 x).wf=true):W64 x:=by
 simp[Lit.wf,IntKind.min,IntKind.max,IntKind.signed,IntKind.bits] at h;exact⟨by omega,by omega⟩
end Go.Proofs.YtfpnnmeblefkkaaGreatDoor.Lg
namespace Go.Proofs.YtfpnnmeblefkkaaGreatDoor
def Po (b:List Int):List Int:=WO (0::b)
def Wi (a b:List Int):List Int:=WO (1::(a++b))
def Us:Nat->Nat->Nat->Nat
  | 0,k,_=>k
  | f+1,k,n=>if k<n-k then Us f (2*k) n else k
def Zp (n:Nat):Nat:=Us n 1 n
theorem MC:∀ f k n,0<k->k<n->n<=k+f->k<=Us f k n/\Us f k n<n/\n<=2*Us f k n
  | 0,k,n,h0,h1,h2=>by omega
  | f+1,k,n,h0,h1,h2=>by
    rw[Us]
    split
    · have:=MC f (2*k) n (by omega) (by omega) (by omega);omega
    · omega
theorem Ut (n:Nat)(h:2<=n):1<=Zp n/\Zp n<n/\n<=2*Zp n:=MC n 1 n (by omega) (by omega) (by omega)
theorem Jr:∀ f k n j,k=2 ^ j->∃ i,Us f k n=2 ^ i
  | 0,k,n,j,h=>⟨j,h⟩
  | f+1,k,n,j,h=>by
    rw[Us]
    split
    · exact Jr f (2*k) n (j+1) (by rw[h,Nat.pow_succ]; omega)
    · exact⟨j,h⟩
theorem rQ (n:Nat):∃ i,Zp n=2 ^ i:=Jr n 1 n 0 rfl
theorem jd (n r i:Nat)(h:2<=n)(hr:r=2 ^ i)(h1:r<n)(h2:n<=2*r):Zp n=r:=by
  obtain⟨j,hj⟩:=rQ n;obtain⟨-,h3,h4⟩:=Ut n h;rw[hj] at h3 h4 ⊢;rw[hr] at h1 h2 ⊢;have a1:2 ^ j<2 ^ (i+1):=by rw[Nat.pow_succ]; omega
  have a2:2 ^ i<2 ^ (j+1):=by rw[Nat.pow_succ]; omega
  have b1:=(Nat.pow_lt_pow_iff_right (by decide:1<2)).1 a1;have b2:=(Nat.pow_lt_pow_iff_right (by decide:1<2)).1 a2;rw[show i=j by omega]
def Qs:Nat->List (List Int)->List Int
  | 0,_=>WO []
  | f+1,ls=>if ls.length=0 then WO [] else if ls.length=1 then Po (ls.getD 0 []) else Wi (Qs f (ls.take (Zp ls.length))) (Qs f (ls.drop (Zp ls.length)))
def Zb (ls:List (List Int)):List Int:=Qs ls.length ls
theorem UR:∀ f g ls,List.length ls<=f->f<=g->Qs g ls=Qs f ls
  | 0,0,ls,_,_=>rfl
  | 0,g+1,ls,h,_=>by
    conv=>lhs; rw[Qs,if_pos (by omega)]
    rfl
  | f+1,0,ls,_,hg=>by omega
  | f+1,g+1,ls,h,hg=>by
    rw[Qs,Qs];by_cases h0:ls.length=0
    · rw[if_pos h0,if_pos h0]
    · rw[if_neg h0,if_neg h0];by_cases h1:ls.length=1
      · rw[if_pos h1,if_pos h1]
      · rw[if_neg h1,if_neg h1];obtain⟨a,b,-⟩:=Ut ls.length (by omega);rw[UR f g _ (by rw[List.length_take]; omega) (by omega),UR f g _ (by rw[List.length_drop]; omega) (by omega)]
theorem MW (ls:List (List Int))(h:ls.length=0):Zb ls=WO []:=by
  unfold Zb;rw[h];rfl
theorem MV (ls:List (List Int))(h:ls.length=1):Zb ls=Po (ls.getD 0 []):=by
  unfold Zb;rw[h,Qs,if_neg (by omega),if_pos h]
theorem MS (ls:List (List Int))(h:2<=ls.length):Zb ls=Wi (Zb (ls.take (Zp ls.length))) (Zb (ls.drop (Zp ls.length))):=by
  obtain⟨a,b,-⟩:=Ut ls.length h;obtain⟨n,hn⟩:∃ n,ls.length=n+1:=⟨ls.length-1,by omega⟩;have e:Zb ls=Qs (n+1) ls:=by unfold Zb; rw[hn]
  rw[e,Qs,if_neg (by omega),if_neg (by omega)];unfold Zb;rw[UR _ n (ls.take (Zp ls.length)) (Nat.le_refl _) (by rw[List.length_take]; omega),UR _ n (ls.drop (Zp ls.length)) (Nat.le_refl _) (by rw[List.length_drop]; omega)]
end Go.Proofs.YtfpnnmeblefkkaaGreatDoor
namespace Go.Proofs.YtfpnnmeblefkkaaGreatDoor
open Go.RowKit
theorem je (n:Nat)(w:World)(hn:n<=1000000):Calls Tryz.prog 58 #[Z8 n] w fun e w'=>e=.returned (Z8 (Zp n))/\w=w':=by
  go_enter Tryz.func58,Tryz.ntmps58;go_wp2_with fail;go_loopg [3] n (fun g s3 wx=>∃ k:Nat,s3=Z8 k/\0<k/\k<=1000000/\Hid (Us g k n=Zp n)/\n<=k+g/\w=wx)
  case atStart=>exact⟨1,by go_num,by omega,by omega,Z9 rfl,by omega,rfl⟩
  case round=>
    obtain⟨k,rfl,h0,h1,hh,hg,rfl⟩:=hrel;by_cases hlt:k<n-k
    · obtain⟨f,rfl⟩:∃ f,gk=f+1:=⟨gk-1,by omega⟩;have hd:decide ((k:Int)<(n:Int)-(k:Int))=true:=decide_eq_true (by omega);have hx:=hh.out;rw[Us,if_pos hlt] at hx;have HX:=Z9 hx;clear hx hh;go_wp2_with fail;go_roundg f
      case measure=>omega
      case rel=>exact⟨2*k,by congr 1; omega,by omega,by omega,HX,by omega,rfl⟩
    · have hd:decide ((k:Int)<(n:Int)-(k:Int))=false:=decide_eq_false (by omega);have hx:k=Zp n:=by
        have:=hh.out;cases gk with
        | zero=>exact this
        | succ f=>rwa [Us,if_neg hlt] at this
      have HX:=Z9 hx;clear hx hh;go_wp2_with fail;go_ret;exact⟨by rw[<- HX.out]; rfl,rfl⟩
theorem Bv (w:World)(x:Int):(w.alloc (.cells #[.int .u8 x] 5)).ownsRow w.heap.size 5 1 (.slice (some ⟨w.heap.size,0,none⟩) 1 1) 1 ([x].map (Value.int .u8)):=
  ⟨rfl,.inr ⟨w.heap.size,1,#[.int .u8 x],rfl,Nat.le_refl _,heap_alloc_last w _,by omega,by simp[maxLen],rfl,rfl⟩⟩
theorem jg (a:Option Addr)(c:Nat)(B:List Int)(w:World)(hS:Sl w a c B)(h8:∀ x,x∈B->W8 x)(hn:B.length<=300000) :
    Calls Tryz.prog 57 #[.slice a B.length c] w fun e w'=>e=.returned (.agg (ZF (Po B)))/\Below w.heap.size w w':=by
  obtain⟨i0,hi,hz0,hz1,hz2⟩:=info_parts info5;have hb0:Below w.heap.size w (w.alloc (.cells (ZF (List.replicate 32 0)) 50)):=(Below.refl _ w).alloc (by simp) _;have hA0:Ab (w.alloc (.cells (ZF (List.replicate 32 0)) 50)) w.heap.size 50 (List.replicate 32 0):=heap_alloc_last w _;have hs0:(w.alloc (.cells (ZF (List.replicate 32 0)) 50)).heap.size=w.heap.size+1:=by simp
  have hS0:=ZP hS hb0;obtain⟨S,hSS⟩:∃ S,S=Po B:=⟨_,rfl⟩;have hq:S.length=32:=by rw[hSS]; exact WY _
  have CS:=fun(a2:Option Addr) (c2:Nat) (V:World) (h:Sl V a2 c2 (0::B))=>Fg a2 c2 (0::B) V h (fun x hx=>by
    rcases List.mem_cons.1 hx with rfl | hx
    · exact⟨by omega,by omega⟩
    · exact h8 x hx) (by simp; omega)
  rw[show WO (0::B)=S from hSS.symm] at CS;rw[<- hSS];have hsS:(ZF S).size=32:=by rw[Sj,hq]
  clear hSS;go_enter Tryz.func57,Tryz.ntmps57;go_upto_region 1 with fail;change Code.wp _ _ _ _ (w.alloc (.cells (ZF (List.replicate 32 0)) 50));generalize w.alloc (.cells (ZF (List.replicate 32 0)) 50)=W at *
  apply wp_region_lit;refine Zv (by kernel_rfl) (some 3) rfl 54 1 #[(0,.const (.int .u8 0))] rfl #[(0,.int .u8 0)] (by kernel_rfl) (.slice (some ⟨W.heap.size,0,none⟩) 1 1) (W.alloc (.cells #[.int .u8 0] 5)) (by kernel_rfl) ?_;simp only[Act.put,List.setIfInBounds_toArray,List.set_cons_succ,List.set_cons_zero];refine YW (by kernel_rfl) (some 4) rfl (.slice a B.length c) (by kernel_rfl) ?_;simp only[Act.put,List.setIfInBounds_toArray,List.set_cons_succ,List.set_cons_zero];have hb1:=hb0.alloc hb0.size (.cells #[.int .u8 0] 5);have hA1:=hA0.alloc (.cells #[.int .u8 0] 5);have hS1:Sl (W.alloc (.cells #[.int .u8 0] 5)) a c B:=ZP hS0 ((Below.refl _ W).alloc (Nat.le_refl _) _);have ho1:=Bv W 0;refine YB rfl (.tmp 3) (.tmp 4) 54 rfl W.heap.size i0 Tryz.underlying54 hi hz0 hz1 hz2 _ 1 _ (by kernel_rfl) ho1 a B.length c B (by kernel_rfl) rfl hS1 (by omega) (by simp) ?_;intro v1 w1 ho2 hg1;have hb2:Below w.heap.size w w1:=YX (by omega) (by have:=hb1.size; omega) ho1 hb1 hg1;have hA2:Ab w1 w.heap.size 50 (List.replicate 32 0):=by
    have hbW:Below W.heap.size (W.alloc (.cells #[.int .u8 0] 5)) w1:=(Below.refl _ _).grown hg1 (by simp) (fun j hj=>(ho1.lt j hj).1);exact hA1.below (by omega) hbW
  have hO2:Own w1 W.heap.size v1 (0::B):=by
    unfold Own;have e:(0::B).length=1+B.length:=(by simp; omega);rw[e];exact ho2
  obtain⟨a2,c2,rfl,hS2,-⟩:=hO2.sl;simp only[Act.put,List.setIfInBounds_toArray,List.set_cons_succ,List.set_cons_zero];refine TV (by kernel_rfl) (some 6) rfl 56 #[.slice a2 (0::B).length c2] (.agg (ZF S)) (Below w1.heap.size w1) (by kernel_rfl) (CS a2 c2 w1 hS2) (fun w2 hb3=>?_);simp only[Act.put,List.setIfInBounds_toArray,List.set_cons_succ,List.set_cons_zero];have hA3:=hA2.below hA2.lt hb3;have hb4:=hb2.trans (hb3.mono hb2.size);apply Zt (ty:=50) (x:=.tmp 2) (y:=.tmp 6) (g:=w.heap.size) (c:=ZF (List.replicate 32 0)) (c':=ZF S)
  case hgd=>rfl
  case ho=>rfl
  case hx=>kernel_rfl
  case hy=>kernel_rfl
  case hg=>exact hA3
  case hi=>rw[hsS]; kernel_rfl
  case hz=>rw[hsS]; rfl
  case h1=>exact WQ _
  apply wpList_nil;have Jt:Ab (w2.setRow w.heap.size (ZF S)) w.heap.size 50 S:=setRow_heap _ _ _ _ _ _ hA3;have XG:=ZU hb4 (Nat.le_refl w.heap.size) (ZF S);generalize w2.setRow w.heap.size (ZF S)=V9 at *
  clear hA0 hb0 hs0 hA1 hb2 hb1 hb3 hb4 hA2 hA3 CS ho1 ho2 hg1 hO2 hS2 hS1 hS0 hS;go_wp2_with fail;refine bodyPost_ret (v:=.agg (ZF S)) ?_ rfl ⟨rfl,XG⟩;refine results_cell_row (fn:=Tryz.f57) (p:=2) (ty:=50) rfl _ _ w.heap.size 50 (ZF S) (0,0) (.array 32 5) rfl Jt ?_ rfl ?_
  · kernel_rfl
  · rw[hsS]; kernel_rfl
end Go.Proofs.YtfpnnmeblefkkaaGreatDoor
