/-
  Texts joined.
-/
import Derived.Test.YtnelmomagdcmnaaGreatJ26
set_option maxRecDepth 100000
set_option maxHeartbeats 8000000
set_option linter.unusedSimpArgs false
set_option linter.unusedVariables false
namespace Go.Proofs.YtnelmomagdcmnaaGreat
attribute [local irreducible] wpList wpQuiet
open Go.RowKit
theorem Rx.base {w w1 w':World}{E:List En}{v:Value}(h:Rx w1 E v w')(hb:Below w.heap.size w w1):Rx w E v w':=by
 obtain⟨X,h1,h2,h3,h4⟩:=h;exact⟨X,h1,own_base h2 hb.size,fun x hx=>(h3 x hx).base hb.size,hb.trans (h4.mono hb.size)⟩
theorem LP {w w1:World}{g u:Nat}{d:Pd}{s:Ps}{c:List Int}{m:Sm}{M:List Hp.It}{R:List Sd.Rw}{L:List El}{W:List Ex.Wt}(h:Pq w g d s c u m M R L L W)(hi:PI c u m M R L)(hb:Below w.heap.size w w1){v:Value}{N:List Int}(hv:Rl w1 w.heap.size v N)(hl:N.length<=1000)(hx:∀ n∈N,∃ x∈L,x.n=n){E:List En}(hE:N.map (Xw L)=E):Calls Tryz.prog 40 #[Z7 g 0,v] w1 fun r w'=>∃ v,r=.returned v/\Rx w E v w':=by
 obtain⟨a,cp,rfl,h1,-⟩:=Yy hv;refine(aW (h.below hb) hi h1 hl hx).mono fun r w' z=>?_;obtain⟨v,e1,h2⟩:=z;exact⟨v,e1,by rw[<- hE]; exact h2.base hb⟩
theorem mJ (L:List El):(L.map El.n).length=L.length:=List.length_map ..
theorem aV {w:World}{B:Nat}{v:Value}{A:List Int}(h:Rl w B v A)(hB:B<=w.heap.size)(y:Int)(hl:A.length<=100000):∃ v' V2,(Builtin.append_ #[22,22] 22 #[v,.slice (some ⟨w.heap.size,0,none⟩) 1 1]).run Tryz.prog (w.alloc (.cells #[Z9 y] 3))=.ok v' V2/\Rl V2 B v' (A++[y])/\Below B w V2:=by
 have MW:Below w.heap.size w (w.alloc (.cells #[Z9 y] 3)):=(Below.refl _ w).alloc (Nat.le_refl _) _;have yX:Bx (w.alloc (.cells #[Z9 y] 3)) w.heap.size #[Z9 y] 3:=heap_alloc_last w _;obtain⟨v6,W6,Us,Xj,hb6,-,-⟩:=Sd.OU (Sd.YB.below h MW) (Nat.le_trans hB MW.size) (some ⟨w.heap.size,0,none⟩) 1 1 [y] (Cs.block (cs:=ZJ [y]) yX) rfl hl (by omega);exact⟨v6,W6,Us,Xj,(MW.mono hB).trans hb6⟩
theorem YQ.entries {w:World}{g u:Nat}{S:Nat->Prop}{c:List Int}{E:List En}(h:YQ w g S c u E)(hu:u<=100000):Calls Tryz.prog 12 #[Z7 g 0] w fun r w'=>∃ v,r=.returned v/\Rx w E v w':=by
 obtain⟨v0,L,hv0,rfl,d,s,m,M,R,hq,hi,hc,-⟩:=h;have hll:=hi.len;have hX:=hq.bx;have C1:=aU w d.Bk;have C2:=mG hq.ky hi.num (fun x hx=>by have:=hi.lo x hx; omega) (by omega);have C3:∀ w1 v,Below w.heap.size w w1->Rl w1 w.heap.size v (L.map El.n)->Calls Tryz.prog 40 #[Z7 g 0,v] w1 fun r w'=>∃ v,r=.returned v/\Rx w (eL L) v w':=fun w1 v hb hv=>LP hq hi hb hv (by rw[mJ]; omega) (fun n hn=>by obtain⟨x,hx,rfl⟩:=List.mem_map.1 hn; exact⟨x,hx,rfl⟩) (vX hi.num);obtain⟨N,hN⟩:=ZR (L.map El.n);rw[hN] at C2 C3;obtain⟨PO,Yi⟩:∃ PO,(fun(r:Ending) w'=>∃ v,r=.returned v/\Rx w (eL L) v w')=PO:=⟨_,rfl⟩;have C3:∀ w1 v,Below w.heap.size w w1->Rl w1 w.heap.size v N->Calls Tryz.prog 40 #[Z7 g 0,v] w1 PO:=fun w1 v hb hv=>by rw[<- Yi]; exact C3 w1 v hb hv
 have fU:Hid (∀ r w',PO r w'->∃ v,r=.returned v):=Z8 fun r w' z=>by rw[<- Yi] at z; obtain⟨v,e,-⟩:=z; exact⟨v,e⟩
 rw[Yi];have C3:=Z8 C3;clear hi hq hc hll hv0 hu Yi hN;go_enter Tryz.func12,Tryz.ntmps12;go_upto_region 1 with fail;refine wl<|ZB (Z7 g 0) ZY<|wn ?_;simp only[pu];go_upto_region 3 with fail;refine wl<|Qc (Z7 g 0) (Z7 g 0) (Z7 g 0) (Z7 g 14)<|ZC rfl ⟨g,14,none⟩ (.map (some d.Bk)) ((hX).ZM 14) <|
  YD (.func (.func 73) #[] #[Z7 w.heap.size 0]) (fun w'=>w'=kyW w d.Bk) (C1) (fun W1 hW1=>?_)
 subst hW1;refine XQ (fun v w'=>Rl w' w.heap.size v N/\Below w.heap.size w w') (C2.mono fun e9 w' z=>by obtain⟨v,h1,h2,h3⟩:=z; exact⟨v,h1,h2,h3⟩) (fun v2 V2 hq=>?_);obtain⟨hr2,hb2⟩:=hq;refine XQ (fun u w'=>PO (.returned u) w') ((C3.out V2 v2 hb2 hr2).mono fun e9 w' z=>by obtain⟨u,rfl⟩:=fU.out _ _ z; exact⟨u,rfl,z⟩) (fun v9 V9 h9=>?_);have HE:=Z8 h9;refine ZQ (v9)<|wn ?_;simp only[pu];clear C1 C2 C3 hr2 hb2 hX fU h9;go_wp2_with fail;exact HE.out
theorem YQ.sender {w:World}{g u:Nat}{S:Nat->Prop}{c:List Int}{E:List En}(h:YQ w g S c u E)(nm:ByteArray):Calls Tryz.prog 15 #[Z7 g 0,.string nm] w fun r w'=>∃ v,r=.returned v/\Rx w (Vt nm E) v w':=by
 obtain⟨v0,L,hv0,rfl,d,s,m,M,R,hq,hi,hc,-⟩:=h;have hll:=hi.len;have hX:=hq.bx;have C2:=Sd.aT hq.sn (by rw[hi.rlen]; omega) nm;obtain⟨hs1,hs2⟩:=hi.sender nm;have hs3:(Sd.U5 (Sd.Zi R nm)).length<=1000:=by
  have h1:(Sd.Zi R nm).length<=R.length:=by unfold Sd.Zi; rw[List.length_map]; exact List.length_filter_le ..
  unfold Sd.U5;rw[List.length_map];rw[hi.rlen] at h1;omega
 have C3:∀ w1 v,Below w.heap.size w w1->Rl w1 w.heap.size v (Sd.U5 (Sd.Zi R nm))->Calls Tryz.prog 40 #[Z7 g 0,v] w1 fun r w'=>∃ v,r=.returned v/\Rx w (Vt nm (eL L)) v w':=fun w1 v hb hv=>LP hq hi hb hv hs3 hs2 hs1;obtain⟨N,hN⟩:=ZR (Sd.U5 (Sd.Zi R nm));rw[hN] at C2 C3;obtain⟨PO,Yi⟩:∃ PO,(fun(r:Ending) w'=>∃ v,r=.returned v/\Rx w (Vt nm (eL L)) v w')=PO:=⟨_,rfl⟩;have C3:∀ w1 v,Below w.heap.size w w1->Rl w1 w.heap.size v N->Calls Tryz.prog 40 #[Z7 g 0,v] w1 PO:=fun w1 v hb hv=>by rw[<- Yi]; exact C3 w1 v hb hv
 have fU:Hid (∀ r w',PO r w'->∃ v,r=.returned v):=Z8 fun r w' z=>by rw[<- Yi] at z; obtain⟨v,e,-⟩:=z; exact⟨v,e⟩
 rw[Yi];have C3:=Z8 C3;clear hi hq hc hll hv0 Yi hN hs1 hs2 hs3;go_enter Tryz.func15,Tryz.ntmps15;go_upto_region 1 with fail;refine wl<|ZB (Z7 g 0) ZY<|wn ?_;simp only[pu];go_upto_region 3 with fail;refine wl<|Qc (Z7 g 0) (Z7 g 0) (Z7 g 0) (Z7 g 17)<|ZC rfl ⟨g,17,none⟩ (Z7 d.gi 0) ((hX).ZM 17)<|ZQ (.string nm) <|
  XQ (fun v w'=>Rl w' w.heap.size v N/\Below w.heap.size w w') (C2.mono fun e9 w' z=>by obtain⟨v,h1,h2,h3⟩:=z; exact⟨v,h1,h2,h3⟩) (fun v2 V2 hq=>?_)
 obtain⟨hr2,hb2⟩:=hq;refine XQ (fun u w'=>PO (.returned u) w') ((C3.out V2 v2 hb2 hr2).mono fun e9 w' z=>by obtain⟨u,rfl⟩:=fU.out _ _ z; exact⟨u,rfl,z⟩) (fun v9 V9 h9=>?_);have HE:=Z8 h9;refine ZQ (v9)<|wn ?_;simp only[pu];clear C2 C3 hr2 hb2 hX fU h9;go_wp2_with fail;exact HE.out
theorem vW {M:List Hp.It}{i:Nat}(hi:i<M.length):(M.take (i+1)).map (fun y=>y.1)=(M.take i).map (fun y=>y.1)++[(Hp.ita M i).1]:=by
 rw[List.take_add_one,List.getElem?_eq_getElem hi,Option.toList_some,List.map_append,Hp.VF hi]; rfl
theorem YQ.sorted {w:World}{g u:Nat}{S:Nat->Prop}{c:List Int}{E:List En}(h:YQ w g S c u E):Calls Tryz.prog 13 #[Z7 g 0] w fun r w'=>∃ v,r=.returned v/\Rx w (sortL E) v w':=by
 obtain⟨v0,L,hv0,rfl,d,s,m,M,R,hq,hi,hc,-⟩:=h;have hll:=hi.len;have hX:=hq.bx;have C2:=Hp.vV hq.hp hi.hw (by rw[hi.hlen]; omega);obtain⟨hs1,hs2⟩:=hi.sorted;have hml:M.length<=1000:=by rw[hi.hlen]; omega
 have C3:∀ w1 v,Below w.heap.size w w1->Rl w1 w.heap.size v (M.map fun y=>y.1)->Calls Tryz.prog 40 #[Z7 g 0,v] w1 fun r w'=>∃ v,r=.returned v/\Rx w (sortL (eL L)) v w':=fun w1 v hb hv=>LP hq hi hb hv (by rw[List.length_map]; exact hml) (fun n hn=>by obtain⟨y,hy,rfl⟩:=List.mem_map.1 hn; exact hs2 y hy) hs1;obtain⟨PO,Yi⟩:∃ PO,(fun(r:Ending) w'=>∃ v,r=.returned v/\Rx w (sortL (eL L)) v w')=PO:=⟨_,rfl⟩;have C3:∀ w1 v,Below w.heap.size w w1->Rl w1 w.heap.size v ((M.take M.length).map fun y=>y.1)->Calls Tryz.prog 40 #[Z7 g 0,v] w1 PO:=fun w1 v hb hv=>by rw[<- Yi]; rw[List.take_length] at hv; exact C3 w1 v hb hv
 have fU:Hid (∀ r w',PO r w'->∃ v,r=.returned v):=Z8 fun r w' z=>by rw[<- Yi] at z; obtain⟨v,e,-⟩:=z; exact⟨v,e⟩
 rw[Yi];have HST:Hid (∀ i,i<M.length->(M.take (i+1)).map (fun y=>y.1)=(M.take i).map (fun y=>y.1)++[(Hp.ita M i).1]):=Z8 fun i hi=>vW hi;have O6:Hid (∀ i,((M.take i).map fun y=>y.1).length<=1000):=Z8 fun i=>by rw[List.length_map,List.length_take]; omega
 have O5:Hid (∀ (V:World) (a:Option Addr),Cs V a (Hp.itc M)->∀ i,i<M.length->∃ b off,a=some ⟨b,off,none⟩/\V.rangeAt b (off+i*3) (Hp.OT (Hp.ita M i))):=Z8 fun V a hV i hi=>by
  obtain⟨b,off,h1,-,h2⟩:=Hp.FW hV hi;exact⟨b,off,h1,h2⟩
 obtain⟨n,hn⟩:=ZR M.length;rw[hn] at C2 C3 HST O5 hml;have C3:=Z8 C3;have fZ:=Z8 hml;clear hi hq hc hll hv0 Yi hs1 hs2 hn hml;go_enter Tryz.func13,Tryz.ntmps13;go_upto_region 1 with fail;refine wl<|ZB (Z7 g 0) ZY<|wn ?_;simp only[pu];go_upto_region 3 with fail;refine wl<|YX (Z7 g 0) (Z7 g 0) (Z7 g 16)<|ZC rfl ⟨g,16,none⟩ (Z7 d.gh 0) ((hX).ZM 16) <|
  XQ (fun v w'=>∃ a9 c9,v=.slice a9 n c9/\Cs w' a9 (Hp.itc M)/\Below w.heap.size w w') (C2.mono fun e9 w' z=>by obtain⟨a,c,h1,h2,h3,h4⟩:=z; exact⟨_,h1,a,c,rfl,h2,h4⟩) (fun vv V1 hq=>?_)
 obtain⟨a9,c9,rfl,hcs1,hb1⟩:=hq;refine ZQ (.slice a9 n c9)<|wn ?_;simp only[pu];obtain⟨W1,hmk,hr1,hb2⟩:=Sd.AL V1 n (by have:=fZ.out; omega);have HCS:=Z8 hcs1;have HB1:=Z8 hb1;have HR1:Hid (Rl W1 V1.heap.size (.slice (some ⟨V1.heap.size,0,none⟩) 0 n) []):=Z8 hr1;have HB2:Hid (Below V1.heap.size V1 W1):=Z8 hb2;clear hcs1 hb1 hr1 hb2 C2 hX;go_upto_region 4 with fail;refine wl<|ZB (.slice a9 n c9) (Z9 n) ?_;refine Vd (by kernel_rfl) (some 16) rfl (.slice (some ⟨V1.heap.size,0,none⟩) 0 n) W1 (Sd.vU rfl hmk (by kernel_rfl) (by kernel_rfl)) ?_;refine ZQ (.slice (some ⟨V1.heap.size,0,none⟩) 0 n)<|wn ?_;simp only[pu];clear hmk;go_upto_region 5 with fail;refine wl<|YX (.slice a9 n c9) (Z9 n) (Z9 0)<|wn ?_;simp only[pu];go_wp2_with fail;go_loopg [4,19] n (fun gg s4 s19 wx=>∃ (i:Nat) (v:Value),s19=Z9 i/\s4=v/\i<=n/\gg+i=n/\Hid (Rl wx V1.heap.size v ((M.take i).map fun y=>y.1))/\Hid (Below V1.heap.size V1 wx))
 case atStart=>exact⟨0,_,rfl,rfl,by omega,by omega,HR1,HB2⟩
 case round=>
  obtain⟨i,v,rfl,hv,hin,hg,HP,HR⟩:=hrel;obtain rfl:=hv.symm;have WH:Hid (gk+i=n):=Z8 hg;clear hg HR1 HB2;by_cases hlt:i<n
  ·obtain⟨b,off,hbb,hrg⟩:=O5.out wr a9 (HCS.out.below HR.out) i hlt;obtain rfl:=hbb;have hST:=HST.out i hlt;obtain⟨x,hx⟩:=ZR (Hp.ita M i);rw[hx] at hrg hST;have FX:=Z8 hST;obtain⟨V2,hst2,hb2,hX2⟩:=Zk (c:=#[Z9 0,ZV 0,Z9 0]) (c':=Hp.Ym x) (ty:=99) wr rfl (by kernel_rfl) (by kernel_rfl);have HR2:Hid (Below V1.heap.size V1 V2):=Z8 (HR.out.trans (hb2.mono HR.out.size));have HP2:Hid (Rl V2 V1.heap.size v ((M.take i).map fun y=>y.1)):=Z8 (own_below HP.out hb2);clear hST hx;go_upto_region 6 with fail;refine wl<|Zg (ZG rfl (i) (n) dT)<|wn ?_;simp only[pu];go_upto_region 7 with fail;refine wl<|Za (Z7 b (off+i*3)) (Hp.vS b off n c9 i hlt _ _ _ rfl (by kernel_rfl) (by kernel_rfl))<|ZC rfl ⟨b,off+i*3,none⟩ (.agg (Hp.Ym x)) (Hp.IK hrg) ?_;refine Zj rfl (some 6) rfl (Z7 wr.heap.size 0) (wr.alloc (.cells #[Z9 0,ZV 0,Z9 0] 99)) (by kernel_rfl) ?_;refine Yb rfl (hst2)<|wn ?_;obtain⟨g6,Ut⟩:=ZR wr.heap.size;rw[Ut] at hX2 ⊢;obtain⟨v6,W6,Us,Xj,hb6⟩:=aV HP2.out HR2.out.size x.1 (by have:=O6.out i; omega);have mM:Hid (Below V1.heap.size V1 W6):=Z8 (HR2.out.trans hb6);have DF:Hid (Rl W6 V1.heap.size v6 ((M.take (i+1)).map fun y=>y.1)):=Z8 (by rw[FX.out]; exact Xj);have hbd:=MV x.1 V2;clear hst2 hb2 Ut hrg HR HP Xj hb6 FX HP2 HR2;go_upto_region 8 with fail;refine wl<|ZB (v) (Z7 g6 0)<|ZC rfl ⟨g6,0,none⟩ (Z9 x.1) (hX2.ZM 0) ?_;refine Zm (by kernel_rfl) (some 26) rfl 22 1 #[(0,.tmp 25)] rfl #[(0,Z9 x.1)] (by kernel_rfl) (.slice (some ⟨V2.heap.size,0,none⟩) 1 1) _ (hbd) ?_;refine YU rfl (some 27) rfl 22 rfl (.tmp 23) (.tmp 26) 22 rfl (v) (.slice (some ⟨V2.heap.size,0,none⟩) 1 1) (v6) W6 (by kernel_rfl) (by kernel_rfl) Us ?_;refine ZQ (v6)<|wn ?_;simp only[pu];clear hbd Us hX2;go_upto_region 9 with fail;refine wl<|Za (Z9 (i+1:Nat)) (add_one rfl i (by have:=fZ.out; omega) (by kernel_rfl) _)<|ZQ (Z9 (i+1:Nat))<|wn ?_;simp only[pu];go_wp2_with fail;go_roundg (n-(i+1))
   case measure=>have:=WH.out; omega
   case rel=>exact⟨i+1,v6,rfl,rfl,by omega,by omega,DF,mM⟩
  ·obtain rfl:i=n:=(by omega);have hrF:Rl wr w.heap.size v ((M.take i).map fun y=>y.1):=own_base HP.out HB1.out.size;have hbF:=HB1.out.trans (HR.out.mono HB1.out.size);clear HP HR HCS HST O5;go_upto_region 6 with fail;refine wl<|Zg (ZG rfl (i) (i) dF)<|wn ?_;simp only[pu];go_upto_region 10 with fail;refine wl<|ZB (Z7 g 0) (v)<|XQ (fun u w'=>PO (.returned u) w') ((C3.out wr v hbF hrF).mono fun e9 w' z=>by obtain⟨u,rfl⟩:=fU.out _ _ z; exact⟨u,rfl,z⟩) (fun v9 V9 h9=>?_);have HE:=Z8 h9;refine ZQ (v9)<|wn ?_;simp only[pu];clear C3 hrF hbF fU h9;go_wp2_with fail;exact HE.out
theorem vZ {N:List Int}{L:List El}{i:Nat}(hi:i<N.length){k:Nat->Int}(hk:(Xw L (N.getD i 0)).k=k):(N.take (i+1)).map (fun n=>(Xw L n).k)=(N.take i).map (fun n=>(Xw L n).k)++[k]:=by
 rw[List.take_add_one,List.getElem?_eq_getElem hi,Option.toList_some,List.map_append];rw[List.getD_eq_getElem?_getD,List.getElem?_eq_getElem hi] at hk;simp only[List.map_cons,List.map_nil,List.append_cancel_left_eq,List.cons.injEq,and_true];exact hk
theorem YQ.expired {w:World}{g u:Nat}{S:Nat->Prop}{c:List Int}{E:List En}(h:YQ w g S c u E){ht tm:Int}(hh:I64 ht)(hm:I64 tm):Calls Tryz.prog 19 #[Z7 g 0,Z9 ht,Z9 tm] w fun r w'=>∃ v,r=.returned v/\WY w' w.heap.size v (Yj (XI c ht tm) E)/\Below w.heap.size w w':=by
 obtain⟨v0,L,hv0,rfl,d,s,m,M,R,hq,hi,hc,-⟩:=h;have hll:=hi.len;have hX:=hq.bx;have CE:=Ex.ak9 hq.ex (by rw[List.length_map]; omega) (show I64 _ from⟨by have:=hc.tb; omega,by have:=hc.tb; omega⟩) (show I64 _ from⟨by have:=hc.tt; omega,by have:=hc.tt; omega⟩) hh hm;have hgn:=hi.gone (c.getD 4 0) (c.getD 5 0) ht tm;have hln:=Ex.vY (L.map Qb) (c.getD 4 0) (c.getD 5 0) ht tm;rw[List.length_map] at hln;have OW:Hid (∀ U,Below w.heap.size w U->Bx U g (O4 c v0 d) 95):=Z8 fun U hU=>(hq.below hU).bx;have TF:Hid (∀ U,Below w.heap.size w U->∀ n x,IU n L=some x->(Instr.lookup 88 (.map (some d.Bk)) (Z9 n) false).run Tryz.prog U=.ok (.agg (Zv x.e.k)) U):=Z8 fun U hU n x hn=>by
  have:=(hq.below hU).ky.look n;rw[hn] at this;exact this
 obtain⟨N,hN⟩:=ZR (Ex.OV (L.map Qb) (c.getD 4 0) (c.getD 5 0) ht tm);rw[hN] at CE hgn hln;have HFN:Hid (∀ i,i<N.length->∃ x,IU (N.getD i 0) L=some x/\(N.take (i+1)).map (fun n=>(Xw L n).k)=(N.take i).map (fun n=>(Xw L n).k)++[x.e.k]):=Z8 fun i hi'=>by
  have hm:N.getD i 0∈N:=by rw[List.getD_eq_getElem?_getD,List.getElem?_eq_getElem hi']; exact List.getElem_mem hi'
  obtain⟨x,hx1,hx2⟩:=hgn.2 _ hm;refine⟨x,by rw[<- hx2]; exact IQ hi.num hx1,vZ hi' ?_⟩;rw[<- hx2,Ul hi.num hx1]
 have HNR:Hid (∀ (V:World) (a:Option Addr),Cs V a (ZJ N)->∀ i,i<N.length->∃ b off,a=some ⟨b,off,none⟩/\(Instr.loadAt 3 (Z7 b (off+i))).run Tryz.prog V=.ok (Z9 (N.getD i 0)) V):=Z8 fun V a hV i hi=>by
  obtain⟨b,off,h1,-,h2⟩:=PU hV hi;exact⟨b,off,h1,XH h2 (by kernel_rfl)⟩
 have O6:Hid (∀ i,((N.take i).map fun n=>(Xw L n).k).length<=1000):=Z8 fun i=>by rw[List.length_map,List.length_take]; omega
 obtain⟨PO,Yi⟩:∃ PO,(fun(r:Ending) w'=>∃ v,r=.returned v/\WY w' w.heap.size v (Yj (XI c ht tm) (eL L))/\Below w.heap.size w w')=PO:=⟨_,rfl⟩;have XD:Hid (∀ V v,WY V w.heap.size v ((N.take N.length).map fun n=>(Xw L n).k)->Below w.heap.size w V->PO (.returned v) V):=Z8 fun V v h1 h2=>by
  rw[<- Yi];rw[List.take_length,hgn.1] at h1;exact⟨v,rfl,h1,h2⟩
 rw[Yi];obtain⟨n,hn⟩:=ZR N.length;rw[hn] at HFN HNR XD hln;have fZ:Hid (n<=1000):=Z8 (by omega);have Vu:=Z8 hn;clear hi hq hc hll hv0 Yi hgn hln hN hh hm hn;go_enter Tryz.func19,Tryz.ntmps19;go_upto_region 1 with fail;refine wl<|ZB (Z7 g 0) ZY<|wn ?_;simp only[pu];go_upto_region 3 with fail;refine wl<|ZQ (.slice none 0 0)<|wn ?_;simp only[pu];go_upto_region 4 with fail;refine wl<|YX (Z7 g 0) (Z7 g 0) (Z7 g 18)<|ZC rfl ⟨g,18,none⟩ (Z7 d.gq 0) ((hX).ZM 18)<|ZB (Z9 ht) (Z9 tm) <|
  XQ (fun v w'=>∃ a9 c9,v=.slice a9 n c9/\Cs w' a9 (ZJ N)/\Below w.heap.size w w') (CE.mono fun e9 w' z=>by obtain⟨v,h1,h2,h3⟩:=z; obtain⟨a,c,e2,h4,-⟩:=Yy h2; rw[Vu.out] at e2; exact⟨v,h1,a,c,e2,h4,h3⟩) (fun vv V1 hq=>?_)
 obtain⟨a9,c9,rfl,hcs1,hb1⟩:=hq;refine ZB (Z9 n) (Z9 0)<|wn ?_;simp only[pu];have HCS:=Z8 hcs1;have HB1:=Z8 hb1;have HR1:Hid (WY V1 V1.heap.size (.slice none 0 0) []):=Z8 (World.ownsRow_nil _ _ _ _);clear hcs1 hb1 CE hX;go_wp2_with fail;go_loopg [7,20] n (fun gg s7 s20 wx=>∃ (i:Nat) (v:Value),s20=Z9 i/\s7=v/\i<=n/\gg+i=n/\Hid (WY wx V1.heap.size v ((N.take i).map fun n=>(Xw L n).k))/\Hid (Below V1.heap.size V1 wx))
 case atStart=>exact⟨0,_,rfl,rfl,by omega,by omega,HR1,Z8 (Below.refl _ _)⟩
 case round=>
  obtain⟨i,v,rfl,hv,hin,hg,HP,HR⟩:=hrel;obtain rfl:=hv.symm;have WH:Hid (gk+i=n):=Z8 hg;clear hg HR1;by_cases hlt:i<n
  ·obtain⟨b,off,hbb,hld⟩:=HNR.out wr a9 (HCS.out.below HR.out) i hlt;obtain rfl:=hbb;obtain⟨x,hx1,hx2⟩:=HFN.out i hlt;have Um:=Z8 (HB1.out.trans (HR.out.mono HB1.out.size));have hlk:=TF.out wr Um.out _ x hx1;have FX:=Z8 hx2;obtain⟨nn,hnn⟩:=ZR (N.getD i 0);rw[hnn] at hld hlk;obtain⟨v6,W6,Us,Xj,hb6⟩:=IL HP.out HR.out.size x.e.k (by have:=O6.out i; omega);have mM:Hid (Below V1.heap.size V1 W6):=Z8 (HR.out.trans hb6);have DF:Hid (WY W6 V1.heap.size v6 ((N.take (i+1)).map fun n=>(Xw L n).k)):=Z8 (by rw[FX.out]; exact Xj);have hbd:=LQ x.e.k wr;clear hx1 hx2 hnn Xj hb6 FX HP HR;go_upto_region 5 with fail;refine wl<|Zg (ZG rfl (i) (n) dT)<|wn ?_;simp only[pu];go_upto_region 6 with fail;refine wl<|Za (Z7 b (off+i)) (Wn b off n c9 i hlt _ _ _ rfl (by kernel_rfl) (by kernel_rfl))<|ZC rfl ⟨b,off+i,none⟩ (Z9 nn) (hld)<|ZQ (Z9 nn)<|wn ?_;simp only[pu];go_upto_region 7 with fail;refine wl<|Qc (v) (Z7 g 0) (Z7 g 0) (Z7 g 14)<|ZC rfl ⟨g,14,none⟩ (.map (some d.Bk)) ((OW.out wr Um.out).ZM 14)<|ZQ (Z9 nn) <|
    Za (.agg (Zv x.e.k)) (Ex.Yv 88 (.tmp 28) (.tmp 29) false rfl (.map (some d.Bk)) (Z9 nn) _ (by kernel_rfl) (by kernel_rfl) hlk) ?_
   refine Zm (by kernel_rfl) (some 31) rfl 47 1 #[(0,.tmp 30)] rfl #[(0,.agg (Zv x.e.k))] (by kernel_rfl) (.slice (some ⟨wr.heap.size,0,none⟩) 1 1) _ (hbd) ?_;refine YU rfl (some 32) rfl 47 rfl (.tmp 24) (.tmp 31) 47 rfl (v) (.slice (some ⟨wr.heap.size,0,none⟩) 1 1) (v6) W6 (by kernel_rfl) (by kernel_rfl) Us ?_;refine ZQ (v6)<|wn ?_;simp only[pu];clear hbd Us hlk hld Um;go_upto_region 8 with fail;refine wl<|Za (Z9 (i+1:Nat)) (add_one rfl i (by have:=fZ.out; omega) (by kernel_rfl) _)<|ZQ (Z9 (i+1:Nat))<|wn ?_;simp only[pu];go_wp2_with fail;go_roundg (n-(i+1))
   case measure=>have:=WH.out; omega
   case rel=>exact⟨i+1,v6,rfl,rfl,by omega,by omega,DF,mM⟩
  ·obtain rfl:i=n:=(by omega);have HE:=Z8 (XD.out wr v (own_base HP.out HB1.out.size) (HB1.out.trans (HR.out.mono HB1.out.size)));clear HP HR HCS XD HFN HNR;go_upto_region 5 with fail;refine wl<|Zg (ZG rfl (i) (i) dF)<|wn ?_;simp only[pu];go_upto_region 9 with fail;refine wl<|ZB (v) (v)<|wn ?_;simp only[pu];go_wp2_with fail;exact HE.out
def OX (b1 b2 b3 b4 b5 b6:Bool):Nat->Bool
 | 1=>b1
 | 2=>b2
 | 3=>b3
 | 4=>b4
 | 5=>b5
 | 6=>b6
 | _=>false
theorem wo:∀ i,OX false false false false false false i=true->False
 | 0,q=>by cases q
 | 1,q=>by cases q
 | 2,q=>by cases q
 | 3,q=>by cases q
 | 4,q=>by cases q
 | 5,q=>by cases q
 | 6,q=>by cases q
 | m+7,q=>by cases q
structure PV (W:World)(c:List Int)(f:Nat->Bool)(d:Pd)(s:Ps)(V:World):Prop where
 p1:f 1=true->Jt V d.Bp []
 p2:f 2=true->LV V d.Bk []
 p3:f 3=true->Sl.VT V d.gs s.Ss (newS (c.getD 0 0))
 p4:f 4=true->Hp.TY V d.gh s.Sh []
 p5:f 5=true->Sd.TV V d.gi s.Si []
 p6:f 6=true->Ex.U6 V d.gq s.Sq (c.getD 4 0) (c.getD 5 0) []
 rng:∀ i k,f i=true->Pp 0 d s i k->W.heap.size<=k/\k<V.heap.size
 Qa:∀ i j k,f i=true->f j=true->Pp 0 d s i k->Pp 0 d s j k->i=j
theorem PV.low {W V V2:World}{c:List Int}{f:Nat->Bool}{d:Pd}{s:Ps}(h:PV W c f d s V)(hb:Below V.heap.size V V2):PV W c f d s V2:=
 ⟨fun q=>(h.p1 q).same (hb.block _ (h.rng 1 _ q rfl).2),fun q=>(h.p2 q).same (hb.block _ (h.rng 2 _ q rfl).2),fun q=>VT.same (h.p3 q) fun k hk=>hb.block k (h.rng 3 k q hk).2,fun q=>(h.p4 q).same fun k hk=>hb.block k (h.rng 4 k q hk).2,fun q=>(h.p5 q).same fun k hk=>hb.block k (h.rng 5 k q hk).2,fun q=>(h.p6 q).same fun k hk=>hb.block k (h.rng 6 k q hk).2,fun i k q hk=>⟨(h.rng i k q hk).1,Nat.lt_of_lt_of_le (h.rng i k q hk).2 hb.size⟩,h.Qa⟩
theorem PV.join {W V V2:World}{f f2:Nat->Bool}{d d2:Pd}{s s2:Ps}{n:Nat}(rng:∀ i k,f i=true->Pp 0 d s i k->W.heap.size<=k/\k<V.heap.size)(Qa:∀ i j k,f i=true->f j=true->Pp 0 d s i k->Pp 0 d s j k->i=j)(hW:W.heap.size<=V.heap.size)(hV:V.heap.size<=V2.heap.size)
  (key:∀ i k,f2 i=true->Pp 0 d2 s2 i k->(i=n/\V.heap.size<=k/\k<V2.heap.size)∨(f i=true/\Pp 0 d s i k)):(∀ i k,f2 i=true->Pp 0 d2 s2 i k->W.heap.size<=k/\k<V2.heap.size)/\∀ i j k,f2 i=true->f2 j=true->Pp 0 d2 s2 i k->Pp 0 d2 s2 j k->i=j:=by
 refine⟨fun i k q hk=>?_,fun i j k q1 q2 h1 h2=>?_⟩
 ·rcases key i k q hk with⟨-,h1,h2⟩ | ⟨h1,h2⟩
  ·omega
  ·have:=rng i k h1 h2; omega
 ·rcases key i k q1 h1 with⟨e1,a1,-⟩ | ⟨a1,a2⟩ <;> rcases key j k q2 h2 with⟨e2,b1,-⟩ | ⟨b1,b2⟩
  ·rw[e1,e2]
  ·have:=rng j k b1 b2; omega
  ·have:=rng i k a1 a2; omega
  ·exact Qa i j k a1 b1 a2 b2
section
variable {W V V2 : World} {c : List Int} {b1 b2 b3 b4 b5 b6 : Bool} {d : Pd} {s : Ps}
theorem PV.a1 (h:PV W c (OX false b2 b3 b4 b5 b6) d s V)(hb:Below V.heap.size V V2)(hW:W.heap.size<=V.heap.size){B:Nat}(hp:Jt V2 B [])(hl:V.heap.size<=B/\B<V2.heap.size):PV W c (OX true b2 b3 b4 b5 b6) { d with Bp:=B } (s) V2:=by
 have hlow:=h.low hb;have key:∀ i k,OX true b2 b3 b4 b5 b6 i=true->Pp 0 { d with Bp:=B } (s) i k->(i=1/\V.heap.size<=k/\k<V2.heap.size)∨(OX false b2 b3 b4 b5 b6 i=true/\Pp 0 d s i k):=fun i k q hk=>by
  match i,q,hk with
  | 1,q,hk=>exact .inl ⟨rfl,by have e:k=B:=hk; rw[e]; exact hl⟩
  | 2,q,hk=>exact .inr ⟨q,hk⟩
  | 3,q,hk=>exact .inr ⟨q,hk⟩
  | 4,q,hk=>exact .inr ⟨q,hk⟩
  | 5,q,hk=>exact .inr ⟨q,hk⟩
  | 6,q,hk=>exact .inr ⟨q,hk⟩
  | 0,q,hk=>cases q
  | m+7,q,hk=>cases q
 obtain⟨h1,h2⟩:=PV.join h.rng h.Qa hW hb.size key;exact⟨fun _=>hp,fun q=>hlow.p2 q,fun q=>hlow.p3 q,fun q=>hlow.p4 q,fun q=>hlow.p5 q,fun q=>hlow.p6 q,h1,h2⟩
theorem PV.a2 (h:PV W c (OX b1 false b3 b4 b5 b6) d s V)(hb:Below V.heap.size V V2)(hW:W.heap.size<=V.heap.size){B:Nat}(hp:LV V2 B [])(hl:V.heap.size<=B/\B<V2.heap.size):PV W c (OX b1 true b3 b4 b5 b6) { d with Bk:=B } (s) V2:=by
 have hlow:=h.low hb;have key:∀ i k,OX b1 true b3 b4 b5 b6 i=true->Pp 0 { d with Bk:=B } (s) i k->(i=2/\V.heap.size<=k/\k<V2.heap.size)∨(OX b1 false b3 b4 b5 b6 i=true/\Pp 0 d s i k):=fun i k q hk=>by
  match i,q,hk with
  | 1,q,hk=>exact .inr ⟨q,hk⟩
  | 2,q,hk=>exact .inl ⟨rfl,by have e:k=B:=hk; rw[e]; exact hl⟩
  | 3,q,hk=>exact .inr ⟨q,hk⟩
  | 4,q,hk=>exact .inr ⟨q,hk⟩
  | 5,q,hk=>exact .inr ⟨q,hk⟩
  | 6,q,hk=>exact .inr ⟨q,hk⟩
  | 0,q,hk=>cases q
  | m+7,q,hk=>cases q
 obtain⟨h1,h2⟩:=PV.join h.rng h.Qa hW hb.size key;exact⟨fun q=>hlow.p1 q,fun _=>hp,fun q=>hlow.p3 q,fun q=>hlow.p4 q,fun q=>hlow.p5 q,fun q=>hlow.p6 q,h1,h2⟩
theorem PV.a3 (h:PV W c (OX b1 b2 false b4 b5 b6) d s V)(hb:Below V.heap.size V V2)(hW:W.heap.size<=V.heap.size){g:Nat}{S:Nat->Prop}(hp:Sl.VT V2 g S (newS (c.getD 0 0)))(hl:∀ k,S k->V.heap.size<=k/\k<V2.heap.size):PV W c (OX b1 b2 true b4 b5 b6) { d with gs:=g } ({ s with Ss:=S }) V2:=by
 have hlow:=h.low hb;have key:∀ i k,OX b1 b2 true b4 b5 b6 i=true->Pp 0 { d with gs:=g } ({ s with Ss:=S }) i k->(i=3/\V.heap.size<=k/\k<V2.heap.size)∨(OX b1 b2 false b4 b5 b6 i=true/\Pp 0 d s i k):=fun i k q hk=>by
  match i,q,hk with
  | 1,q,hk=>exact .inr ⟨q,hk⟩
  | 2,q,hk=>exact .inr ⟨q,hk⟩
  | 3,q,hk=>exact .inl ⟨rfl,hl k hk⟩
  | 4,q,hk=>exact .inr ⟨q,hk⟩
  | 5,q,hk=>exact .inr ⟨q,hk⟩
  | 6,q,hk=>exact .inr ⟨q,hk⟩
  | 0,q,hk=>cases q
  | m+7,q,hk=>cases q
 obtain⟨h1,h2⟩:=PV.join h.rng h.Qa hW hb.size key;exact⟨fun q=>hlow.p1 q,fun q=>hlow.p2 q,fun _=>hp,fun q=>hlow.p4 q,fun q=>hlow.p5 q,fun q=>hlow.p6 q,h1,h2⟩
theorem PV.a4 (h:PV W c (OX b1 b2 b3 false b5 b6) d s V)(hb:Below V.heap.size V V2)(hW:W.heap.size<=V.heap.size){g:Nat}{S:Nat->Prop}(hp:Hp.TY V2 g S [])(hl:∀ k,S k->V.heap.size<=k/\k<V2.heap.size):PV W c (OX b1 b2 b3 true b5 b6) { d with gh:=g } ({ s with Sh:=S }) V2:=by
 have hlow:=h.low hb;have key:∀ i k,OX b1 b2 b3 true b5 b6 i=true->Pp 0 { d with gh:=g } ({ s with Sh:=S }) i k->(i=4/\V.heap.size<=k/\k<V2.heap.size)∨(OX b1 b2 b3 false b5 b6 i=true/\Pp 0 d s i k):=fun i k q hk=>by
  match i,q,hk with
  | 1,q,hk=>exact .inr ⟨q,hk⟩
  | 2,q,hk=>exact .inr ⟨q,hk⟩
  | 3,q,hk=>exact .inr ⟨q,hk⟩
  | 4,q,hk=>exact .inl ⟨rfl,hl k hk⟩
  | 5,q,hk=>exact .inr ⟨q,hk⟩
  | 6,q,hk=>exact .inr ⟨q,hk⟩
  | 0,q,hk=>cases q
  | m+7,q,hk=>cases q
 obtain⟨h1,h2⟩:=PV.join h.rng h.Qa hW hb.size key;exact⟨fun q=>hlow.p1 q,fun q=>hlow.p2 q,fun q=>hlow.p3 q,fun _=>hp,fun q=>hlow.p5 q,fun q=>hlow.p6 q,h1,h2⟩
theorem PV.a5 (h:PV W c (OX b1 b2 b3 b4 false b6) d s V)(hb:Below V.heap.size V V2)(hW:W.heap.size<=V.heap.size){g:Nat}{S:Nat->Prop}(hp:Sd.TV V2 g S [])(hl:∀ k,S k->V.heap.size<=k/\k<V2.heap.size):PV W c (OX b1 b2 b3 b4 true b6) { d with gi:=g } ({ s with Si:=S }) V2:=by
 have hlow:=h.low hb;have key:∀ i k,OX b1 b2 b3 b4 true b6 i=true->Pp 0 { d with gi:=g } ({ s with Si:=S }) i k->(i=5/\V.heap.size<=k/\k<V2.heap.size)∨(OX b1 b2 b3 b4 false b6 i=true/\Pp 0 d s i k):=fun i k q hk=>by
  match i,q,hk with
  | 1,q,hk=>exact .inr ⟨q,hk⟩
  | 2,q,hk=>exact .inr ⟨q,hk⟩
  | 3,q,hk=>exact .inr ⟨q,hk⟩
  | 4,q,hk=>exact .inr ⟨q,hk⟩
  | 5,q,hk=>exact .inl ⟨rfl,hl k hk⟩
  | 6,q,hk=>exact .inr ⟨q,hk⟩
  | 0,q,hk=>cases q
  | m+7,q,hk=>cases q
 obtain⟨h1,h2⟩:=PV.join h.rng h.Qa hW hb.size key;exact⟨fun q=>hlow.p1 q,fun q=>hlow.p2 q,fun q=>hlow.p3 q,fun q=>hlow.p4 q,fun _=>hp,fun q=>hlow.p6 q,h1,h2⟩
theorem PV.a6 (h:PV W c (OX b1 b2 b3 b4 b5 false) d s V)(hb:Below V.heap.size V V2)(hW:W.heap.size<=V.heap.size){g:Nat}{S:Nat->Prop}(hp:Ex.U6 V2 g S (c.getD 4 0) (c.getD 5 0) [])(hl:∀ k,S k->V.heap.size<=k/\k<V2.heap.size):PV W c (OX b1 b2 b3 b4 b5 true) { d with gq:=g } ({ s with Sq:=S }) V2:=by
 have hlow:=h.low hb;have key:∀ i k,OX b1 b2 b3 b4 b5 true i=true->Pp 0 { d with gq:=g } ({ s with Sq:=S }) i k->(i=6/\V.heap.size<=k/\k<V2.heap.size)∨(OX b1 b2 b3 b4 b5 false i=true/\Pp 0 d s i k):=fun i k q hk=>by
  match i,q,hk with
  | 1,q,hk=>exact .inr ⟨q,hk⟩
  | 2,q,hk=>exact .inr ⟨q,hk⟩
  | 3,q,hk=>exact .inr ⟨q,hk⟩
  | 4,q,hk=>exact .inr ⟨q,hk⟩
  | 5,q,hk=>exact .inr ⟨q,hk⟩
  | 6,q,hk=>exact .inl ⟨rfl,hl k hk⟩
  | 0,q,hk=>cases q
  | m+7,q,hk=>cases q
 obtain⟨h1,h2⟩:=PV.join h.rng h.Qa hW hb.size key;exact⟨fun q=>hlow.p1 q,fun q=>hlow.p2 q,fun q=>hlow.p3 q,fun q=>hlow.p4 q,fun q=>hlow.p5 q,fun _=>hp,h1,h2⟩
end
structure KN (W:World)(c:List Int)(b1 b2 b3 b4 b5 b6 b13 b14:Bool)(x1 x2 x3 x4 x5 x6 x13 x14:Value)(V:World):Prop where
 bel:Below W.heap.size W V
 o13:b13=true->b1=true/\b2=true/\b3=true/\b4=true/\b5=true/\b6=true
 o14:b14=true->b13=true
 ex:∃ d s,PV W c (OX b1 b2 b3 b4 b5 b6) d s V/\(b1=true->x1=.map (some d.Bp))/\(b2=true->x2=.map (some d.Bk))/\(b3=true->x3=Z7 d.gs 0)/\(b4=true->x4=Z7 d.gh 0)/\(b5=true->x5=Z7 d.gi 0)/\(b6=true->x6=Z7 d.gq 0)/\(b13=true->x13=.agg (O4 c 0 d))/\(b14=true->∃ g,x14=Z7 g 0/\Bx V g (O4 c 0 d) 95/\W.heap.size<=g/\∀ i,1<=i->¬ Pp 0 d s i g)
section
variable {W V V2 : World} {c : List Int} {b1 b2 b3 b4 b5 b6 b13 b14 : Bool} {x1 x2 x3 x4 x5 x6 x13 x14 : Value}
theorem KN.start (W:World)(c:List Int)(x1 x2 x3 x4 x5 x6 x13 x14:Value):KN W c false false false false false false false false x1 x2 x3 x4 x5 x6 x13 x14 W.drew:=
 ⟨(Below.refl _ W).drew,fun h=>(by cases h),fun h=>h,⟨0,0,0,0,0,0⟩,⟨fun _=>False,fun _=>False,fun _=>False,fun _=>False⟩,⟨fun h=>(by cases h),fun h=>(by cases h),fun h=>(by cases h),fun h=>(by cases h),fun h=>(by cases h),fun h=>(by cases h),fun i k q=>(wo i q).elim,fun i j k q=>(wo i q).elim⟩,fun h=>(by cases h),fun h=>(by cases h),fun h=>(by cases h),fun h=>(by cases h),fun h=>(by cases h),fun h=>(by cases h),fun h=>(by cases h),fun h=>(by cases h)⟩
theorem KN.off (h:KN W c b1 b2 b3 b4 b5 b6 b13 b14 x1 x2 x3 x4 x5 x6 x13 x14 V)(hn:¬ (b1=true/\b2=true/\b3=true/\b4=true/\b5=true/\b6=true)):b13=false/\b14=false:=by
 have h1:b13=false:=by cases b13; rfl; exact absurd (h.o13 rfl) hn
 subst h1;exact⟨rfl,O7 h.o14 rfl⟩
theorem KN.a1 (h:KN W c false b2 b3 b4 b5 b6 false false x1 x2 x3 x4 x5 x6 x13 x14 V):KN W c true b2 b3 b4 b5 b6 false false (.map (some V.heap.size)) x2 x3 x4 x5 x6 x13 x14 (V.alloc (.map #[] 0)):=by
 obtain⟨d,s,h1,e1,e2,e3,e4,e5,e6,-,-⟩:=h.ex;have hb:Below V.heap.size V (V.alloc (.map #[] 0)):=(Below.refl _ V).alloc (Nat.le_refl _) _;exact⟨h.bel.trans (hb.mono h.bel.size),fun h=>(by cases h),fun h=>h,_,_,h1.a1 hb h.bel.size (Jt.new V) ⟨Nat.le_refl _,by simp⟩,fun _=>rfl,e2,e3,e4,e5,e6,fun h=>(by cases h),fun h=>(by cases h)⟩
theorem KN.a2 (h:KN W c b1 false b3 b4 b5 b6 false false x1 x2 x3 x4 x5 x6 x13 x14 V):KN W c b1 true b3 b4 b5 b6 false false x1 (.map (some V.heap.size)) x3 x4 x5 x6 x13 x14 (V.alloc (.map #[] 0)):=by
 obtain⟨d,s,h1,e1,e2,e3,e4,e5,e6,-,-⟩:=h.ex;have hb:Below V.heap.size V (V.alloc (.map #[] 0)):=(Below.refl _ V).alloc (Nat.le_refl _) _;exact⟨h.bel.trans (hb.mono h.bel.size),fun h=>(by cases h),fun h=>h,_,_,h1.a2 hb h.bel.size (LV.new V) ⟨Nat.le_refl _,by simp⟩,e1,fun _=>rfl,e3,e4,e5,e6,fun h=>(by cases h),fun h=>(by cases h)⟩
theorem KN.a3 (h:KN W c b1 b2 false b4 b5 b6 false false x1 x2 x3 x4 x5 x6 x13 x14 V){g:Nat}{S:Nat->Prop}(hp:Sl.VT V2 g S (newS (c.getD 0 0)))(hl:∀ k,S k->V.heap.size<=k)(hb:Below V.heap.size V V2):KN W c b1 b2 true b4 b5 b6 false false x1 x2 (Z7 g 0) x4 x5 x6 x13 x14 V2:=by
 obtain⟨d,s,h1,e1,e2,e3,e4,e5,e6,-,-⟩:=h.ex;exact⟨h.bel.trans (hb.mono h.bel.size),fun h=>(by cases h),fun h=>h,_,_,h1.a3 hb h.bel.size hp (fun k hk=>⟨hl k hk,VT.inn hp k hk⟩),e1,e2,fun _=>rfl,e4,e5,e6,fun h=>(by cases h),fun h=>(by cases h)⟩
theorem KN.a4 (h:KN W c b1 b2 b3 false b5 b6 false false x1 x2 x3 x4 x5 x6 x13 x14 V){g:Nat}{S:Nat->Prop}(hp:Hp.TY V2 g S [])(hl:∀ k,S k->V.heap.size<=k)(hb:Below V.heap.size V V2):KN W c b1 b2 b3 true b5 b6 false false x1 x2 x3 (Z7 g 0) x5 x6 x13 x14 V2:=by
 obtain⟨d,s,h1,e1,e2,e3,e4,e5,e6,-,-⟩:=h.ex;exact⟨h.bel.trans (hb.mono h.bel.size),fun h=>(by cases h),fun h=>h,_,_,h1.a4 hb h.bel.size hp (fun k hk=>⟨hl k hk,hp.inn k hk⟩),e1,e2,e3,fun _=>rfl,e5,e6,fun h=>(by cases h),fun h=>(by cases h)⟩
theorem KN.a5 (h:KN W c b1 b2 b3 b4 false b6 false false x1 x2 x3 x4 x5 x6 x13 x14 V){g:Nat}{S:Nat->Prop}(hp:Sd.TV V2 g S [])(hl:∀ k,S k->V.heap.size<=k)(hb:Below V.heap.size V V2):KN W c b1 b2 b3 b4 true b6 false false x1 x2 x3 x4 (Z7 g 0) x6 x13 x14 V2:=by
 obtain⟨d,s,h1,e1,e2,e3,e4,e5,e6,-,-⟩:=h.ex;exact⟨h.bel.trans (hb.mono h.bel.size),fun h=>(by cases h),fun h=>h,_,_,h1.a5 hb h.bel.size hp (fun k hk=>⟨hl k hk,hp.inn k hk⟩),e1,e2,e3,e4,fun _=>rfl,e6,fun h=>(by cases h),fun h=>(by cases h)⟩
theorem KN.a6 (h:KN W c b1 b2 b3 b4 b5 false false false x1 x2 x3 x4 x5 x6 x13 x14 V){g:Nat}{S:Nat->Prop}(hp:Ex.U6 V2 g S (c.getD 4 0) (c.getD 5 0) [])(hl:∀ k,S k->V.heap.size<=k)(hb:Below V.heap.size V V2):KN W c b1 b2 b3 b4 b5 true false false x1 x2 x3 x4 x5 (Z7 g 0) x13 x14 V2:=by
 obtain⟨d,s,h1,e1,e2,e3,e4,e5,e6,-,-⟩:=h.ex;exact⟨h.bel.trans (hb.mono h.bel.size),fun h=>(by cases h),fun h=>h,_,_,h1.a6 hb h.bel.size hp (fun k hk=>⟨hl k hk,hp.inn k hk⟩),e1,e2,e3,e4,e5,fun _=>rfl,fun h=>(by cases h),fun h=>(by cases h)⟩
theorem KN.a13 (h:KN W c true true true true true true false false x1 x2 x3 x4 x5 x6 x13 x14 V):∃ d,x1=.map (some d.Bp)/\x2=.map (some d.Bk)/\x3=Z7 d.gs 0/\x4=Z7 d.gh 0/\x5=Z7 d.gi 0/\x6=Z7 d.gq 0/\KN W c true true true true true true true false x1 x2 x3 x4 x5 x6 (.agg (O4 c 0 d)) x14 V:=by
 obtain⟨d,s,h1,e1,e2,e3,e4,e5,e6,-,-⟩:=h.ex;exact⟨d,e1 rfl,e2 rfl,e3 rfl,e4 rfl,e5 rfl,e6 rfl,h.bel,fun _=>⟨rfl,rfl,rfl,rfl,rfl,rfl⟩,fun h=>(by cases h),d,s,h1,e1,e2,e3,e4,e5,e6,fun _=>rfl,fun h=>(by cases h)⟩
theorem KN.n14 (h:KN W c b1 b2 b3 b4 b5 b6 true b14 x1 x2 x3 x4 x5 x6 x13 x14 V):b1=true/\b2=true/\b3=true/\b4=true/\b5=true/\b6=true:=h.o13 rfl
theorem KN.a14 (h:KN W c true true true true true true true false x1 x2 x3 x4 x5 x6 x13 x14 V):∃ d,x13=.agg (O4 c 0 d)/\KN W c true true true true true true true true x1 x2 x3 x4 x5 x6 x13 (Z7 V.heap.size 0) (V.alloc (.cells (O4 c 0 d) 95)):=by
 obtain⟨d,s,h1,e1,e2,e3,e4,e5,e6,e7,-⟩:=h.ex;have hb:Below V.heap.size V (V.alloc (.cells (O4 c 0 d) 95)):=(Below.refl _ V).alloc (Nat.le_refl _) _;refine⟨d,e7 rfl,h.bel.trans (hb.mono h.bel.size),h.o13,fun _=>rfl,d,s,h1.low hb,e1,e2,e3,e4,e5,e6,e7,fun _=>⟨_,rfl,heap_alloc_last V _,h.bel.size,fun i hi q=>?_⟩⟩;have:OX true true true true true true i=true:=by
  match i,hi,q with
  | 1,_,_=>rfl
  | 2,_,_=>rfl
  | 3,_,_=>rfl
  | 4,_,_=>rfl
  | 5,_,_=>rfl
  | 6,_,_=>rfl
  | m+7,_,q=>cases q
 exact Nat.lt_irrefl _ (h1.rng i _ this q).2
theorem Un {d:Pd}{s:Ps}{g h:Nat}:∀ {i k:Nat},1<=i->Pp g d s i k->Pp h d s i k
 | 0,_,h1,_=>by omega
 | 1,_,_,q=>q
 | 2,_,_,q=>q
 | 3,_,_,q=>q
 | 4,_,_,q=>q
 | 5,_,_,q=>q
 | 6,_,_,q=>q
 | m+7,_,_,q=>q
theorem Dy {d:Pd}{s:Ps}{g:Nat}:∀ {i k:Nat},1<=i->Pp g d s i k->OX true true true true true true i=true
 | 0,_,h1,_=>by omega
 | 1,_,_,q=>rfl
 | 2,_,_,q=>rfl
 | 3,_,_,q=>rfl
 | 4,_,_,q=>rfl
 | 5,_,_,q=>rfl
 | 6,_,_,q=>rfl
 | m+7,_,_,q=>by cases q
theorem PV.pool {d:Pd}{s:Ps}{g:Nat}(h:PV W c (OX true true true true true true) d s V)(hX:Bx V g (O4 c 0 d) 95)(hg:W.heap.size<=g)(hn:∀ i,1<=i->¬ Pp 0 d s i g)(hc:LY c):∃ S,YQ V g S c 0 []/\∀ k,S k->W.heap.size<=k:=by
 have hdis:∀ i j k,Pp g d s i k->Pp g d s j k->i=j:=fun i j k h1 h2=>by
  rcases Nat.eq_zero_or_pos i with e1 | e1 <;> rcases Nat.eq_zero_or_pos j with e2 | e2
  ·rw[e1,e2]
  ·subst e1;have e:k=g:=h1;subst e;exact absurd (Un e2 h2) (hn j e2)
  ·subst e2;have e:k=g:=h2;subst e;exact absurd (Un e1 h1) (hn i e1)
  ·exact h.Qa i j k (Dy e1 h1) (Dy e2 h2) (Un e1 h1) (Un e2 h2)
 refine⟨fun k=>∃ i,Pp g d s i k,⟨0,[],Nat.le_refl _,rfl,d,s,newS (c.getD 0 0),[],[],⟨hX,h.p1 rfl,h.p2 rfl,h.p3 rfl,h.p4 rfl,h.p5 rfl,h.p6 rfl,hdis⟩,PI.new c hc.mo (by have:=hc.mb; omega) 0,hc,fun k=>Iff.rfl⟩,fun k ⟨i,q⟩=>?_⟩;rcases Nat.eq_zero_or_pos i with e1 | e1
 ·subst e1;have e:k=g:=q;rw[e]; exact hg
 ·exact(h.rng i k (Dy e1 q) (Un e1 q)).1
end
theorem Xd {w:World}{g k:Nat}{c:List Int}(h:Bx w g (Zu c) k):(Instr.loadAt 25 (Z7 g 0)).run Tryz.prog w=.ok (.agg (Zu c)) w:=run_loadAt_mid w g 0 25 (Zu c).toList _ (ZU (cs:=(Zu c).toList) h) Tryz.underlying25 rfl (by kernel_rfl)
def NwO (w:World)(c:List Int)(e:Ending)(w':World):Prop:=∃ g S,e=.returned (Z7 g 0)/\YQ w' g S c 0 []/\(∀ k,S k->w.heap.size<=k)/\Below w.heap.size w w'
theorem aY {c:List Int}(hc:Cg.VU c)(hv:Cg.Ve c=0)(w:World):Calls Tryz.prog 26 #[.agg (Zu c)] w (NwO w c):=by
 have HV:Hid (∀ U,Calls Tryz.prog 52 #[.agg (Zu c)] U fun e w'=>e=.returned (Z9 0)/\Below U.heap.size U w'):=Z8 fun U=>by
  have:=Cg.AP hc U;rw[hv] at this;exact this
 have HCV:Hid (LY c):=Z8 (LY.of hc hv);obtain⟨PO,Yi⟩:=ZR (NwO w c);have HPO:=Z8 Yi;rw[Yi];clear hc hv Yi;go_enter Tryz.func26,Tryz.ntmps26;go_upto_region 1 with fail;change Code.wp _ _ _ _ (w.alloc (.cells (Zu c) 25));have Zd:Below w.heap.size w (w.alloc (.cells (Zu c) 25)):=(Below.refl _ w).alloc (Nat.le_refl _) _;have hX1:Bx (w.alloc (.cells (Zu c) 25)) w.heap.size (Zu c) 25:=heap_alloc_last w _;have Yg:(w.alloc (.cells (Zu c) 25)).heap.size=w.heap.size+1:=by simp
 generalize w.alloc (.cells (Zu c) 25)=W at *
 obtain⟨g1,hg1⟩:=ZR w.heap.size;rw[hg1] at hX1;have Xm:Hid (g1=w.heap.size+0/\W.heap.size=w.heap.size+1):=Z8 ⟨by omega,by omega⟩;have HB:=Z8 Zd;simp only[hg1];clear Zd Yg hg1;refine wl<|ZC rfl ⟨g1,0,none⟩ (.agg (Zu c)) (Xd hX1)<|YD (Z9 0) (fun w'=>Below W.heap.size W w') (HV.out W) (fun V1 hV1=>?_);refine Zg (SL rfl 0 0 (decide_eq_false (by decide)))<|wn ?_;simp only[pu];have Um:=Z8 (HB.out.trans (hV1.mono HB.out.size));have hX1:=hX1.below hX1.lt hV1;clear hV1;have h0:=And.intro (KN.start V1 c undef undef undef undef undef undef undef undef) (fun h:false=true=>h);have LU:=Z8 hX1;clear hX1;go_upto_region 3 with fail;refine ZK (fun listed ZH V=>∃ b0 b1 b2 b3 b4 b5 b6 b7 b8 b9 b10 b11 b12 b13 b14 b15:Bool,∃ x8 x9 x12 x13 x14 x19 x20 x21:Value,listed=#[b0,b1,b2,b3,b4,b5,b6,b7,b8,b9,b10,b11,b12,b13,b14,b15]/\ZH={ tmps:=#[.agg (Zu c),Z7 g1 0,(cond b15 (x21) (.pointer none)),.agg (Zu c),Z9 0,ZY,undef,(cond b0 (.agg (Zu c)) undef),x8,x9,(cond b3 (Z7 g1 0) undef),(cond b4 (Z9 (c.getD 0 0)) undef),x12,x13,x14,(cond b8 (Z7 g1 4) undef),(cond b9 (Z9 (c.getD 4 0)) undef),(cond b10 (Z7 g1 5) undef),(cond b11 (Z9 (c.getD 5 0)) undef),x19,x20,x21],defers:=[] }/\KN V1 c b1 b2 b5 b6 b7 b12 b13 b14 x8 x9 x12 x13 x14 x19 x20 x21 V/\(b15=true->b14=true)) (by kernel_rfl) (by kernel_rfl) ?_ ?_ ?_
 ·exact⟨_,_,_,_,_,_,_,_,_,_,_,_,_,_,_,_,_,_,_,_,_,_,_,_,rfl,rfl,h0⟩
 ·intro i9 listed ZH V hi9 hr hJ;obtain⟨b0,b1,b2,b3,b4,b5,b6,b7,b8,b9,b10,b11,b12,b13,b14,b15,x8,x9,x12,x13,x14,x19,x20,x21,rfl,rfl,hF⟩:=hJ;have hi2:i9<16:=hi9;have hi3:i9=0∨i9=1∨i9=2∨i9=3∨i9=4∨i9=5∨i9=6∨i9=7∨i9=8∨i9=9∨i9=10∨i9=11∨i9=12∨i9=13∨i9=14∨i9=15:=by omega
  rcases hi3 with rfl | rfl | rfl | rfl | rfl | rfl | rfl | rfl | rfl | rfl | rfl | rfl | rfl | rfl | rfl | rfl
  ·obtain rfl:b0=false:=Z5 hr;refine ZI rfl (by kernel_rfl) (some 7) rfl 25 (.tmp 1) rfl ⟨g1,0,none⟩ (.agg (Zu c)) (by kernel_rfl) (Xd (LU.out.below LU.out.lt hF.1.bel)) ?_;exact⟨_,_,_,_,_,_,_,_,_,_,_,_,_,_,_,_,_,_,_,_,_,_,_,_,rfl,rfl,hF⟩
  ·obtain rfl:b1=false:=Z5 hr;obtain⟨rfl,rfl⟩:=hF.1.off (fun h=>nomatch h.1);refine ZW rfl (by kernel_rfl) (some 8) rfl (.map (some V.heap.size)) (V.alloc (.map #[] 0)) (Ex.SK 89 rfl) ?_;exact⟨_,_,_,_,_,_,_,_,_,_,_,_,_,_,_,_,_,_,_,_,_,_,_,_,rfl,rfl,hF.1.a1,hF.2⟩
  ·obtain rfl:b2=false:=Z5 hr;obtain⟨rfl,rfl⟩:=hF.1.off (fun h=>nomatch h.2.1);refine ZW rfl (by kernel_rfl) (some 9) rfl (.map (some V.heap.size)) (V.alloc (.map #[] 0)) (Ex.SK 88 rfl) ?_;exact⟨_,_,_,_,_,_,_,_,_,_,_,_,_,_,_,_,_,_,_,_,_,_,_,_,rfl,rfl,hF.1.a2,hF.2⟩
  ·obtain rfl:b3=false:=Z5 hr;refine ZW rfl (by kernel_rfl) (some 10) rfl (Z7 g1 0) V (by kernel_rfl) ?_;exact⟨_,_,_,_,_,_,_,_,_,_,_,_,_,_,_,_,_,_,_,_,_,_,_,_,rfl,rfl,hF⟩
  ·obtain rfl:b4=false:=Z5 hr;obtain rfl:b3=true:=Z4 hr 3;refine ZI rfl (by kernel_rfl) (some 11) rfl 3 (.tmp 10) rfl ⟨g1,0,none⟩ (Z9 (c.getD 0 0)) (by kernel_rfl) ((LU.out.below LU.out.lt hF.1.bel).ZM 0) ?_;exact⟨_,_,_,_,_,_,_,_,_,_,_,_,_,_,_,_,_,_,_,_,_,_,_,_,rfl,rfl,hF⟩
  ·obtain rfl:b5=false:=Z5 hr;obtain rfl:b4=true:=Z4 hr 4;obtain⟨rfl,rfl⟩:=hF.1.off (fun h=>nomatch h.2.2.1);refine Zl rfl (by kernel_rfl) (some 12) rfl 54 #[Z9 (c.getD 0 0)] (by kernel_rfl) ((Sl.P9 (c.getD 0 0) V).mono ?_);rintro e9 V9 ⟨g9,S9,rfl,Dx,L6,Yp⟩;exact⟨_,rfl,_,_,_,_,_,_,_,_,_,_,_,_,_,_,_,_,_,_,_,_,_,_,_,_,rfl,rfl,hF.1.a3 Dx L6 Yp,hF.2⟩
  ·obtain rfl:b6=false:=Z5 hr;obtain⟨rfl,rfl⟩:=hF.1.off (fun h=>nomatch h.2.2.2.1);refine Zl rfl (by kernel_rfl) (some 13) rfl 55 #[] (by kernel_rfl) ((Hp.gu V).mono ?_);rintro e9 V9 ⟨g9,S9,rfl,Dx,L6,Yp⟩;exact⟨_,rfl,_,_,_,_,_,_,_,_,_,_,_,_,_,_,_,_,_,_,_,_,_,_,_,_,rfl,rfl,hF.1.a4 Dx L6 Yp,hF.2⟩
  ·obtain rfl:b7=false:=Z5 hr;obtain⟨rfl,rfl⟩:=hF.1.off (fun h=>nomatch h.2.2.2.2.1);refine Zl rfl (by kernel_rfl) (some 14) rfl 56 #[] (by kernel_rfl) ((Sd.P9 V).mono ?_);rintro e9 V9 ⟨g9,S9,rfl,Dx,L6,Yp⟩;exact⟨_,rfl,_,_,_,_,_,_,_,_,_,_,_,_,_,_,_,_,_,_,_,_,_,_,_,_,rfl,rfl,hF.1.a5 Dx L6 Yp,hF.2⟩
  ·obtain rfl:b8=false:=Z5 hr;refine ZW rfl (by kernel_rfl) (some 15) rfl (Z7 g1 4) V (by kernel_rfl) ?_;exact⟨_,_,_,_,_,_,_,_,_,_,_,_,_,_,_,_,_,_,_,_,_,_,_,_,rfl,rfl,hF⟩
  ·obtain rfl:b9=false:=Z5 hr;obtain rfl:b8=true:=Z4 hr 8;refine ZI rfl (by kernel_rfl) (some 16) rfl 3 (.tmp 15) rfl ⟨g1,4,none⟩ (Z9 (c.getD 4 0)) (by kernel_rfl) ((LU.out.below LU.out.lt hF.1.bel).ZM 4) ?_;exact⟨_,_,_,_,_,_,_,_,_,_,_,_,_,_,_,_,_,_,_,_,_,_,_,_,rfl,rfl,hF⟩
  ·obtain rfl:b10=false:=Z5 hr;refine ZW rfl (by kernel_rfl) (some 17) rfl (Z7 g1 5) V (by kernel_rfl) ?_;exact⟨_,_,_,_,_,_,_,_,_,_,_,_,_,_,_,_,_,_,_,_,_,_,_,_,rfl,rfl,hF⟩
  ·obtain rfl:b11=false:=Z5 hr;obtain rfl:b10=true:=Z4 hr 10;refine ZI rfl (by kernel_rfl) (some 18) rfl 3 (.tmp 17) rfl ⟨g1,5,none⟩ (Z9 (c.getD 5 0)) (by kernel_rfl) ((LU.out.below LU.out.lt hF.1.bel).ZM 5) ?_;exact⟨_,_,_,_,_,_,_,_,_,_,_,_,_,_,_,_,_,_,_,_,_,_,_,_,rfl,rfl,hF⟩
  ·obtain rfl:b12=false:=Z5 hr;obtain rfl:b9=true:=Z4 hr 9;obtain rfl:b11=true:=Z4 hr 11;obtain⟨rfl,rfl⟩:=hF.1.off (fun h=>nomatch h.2.2.2.2.2);refine Zl rfl (by kernel_rfl) (some 19) rfl 57 #[Z9 (c.getD 4 0),Z9 (c.getD 5 0)] (by kernel_rfl) ((Ex.P9 (c.getD 4 0) (c.getD 5 0) V).mono ?_);rintro e9 V9 ⟨g9,S9,rfl,Dx,L6,Yp⟩;exact⟨_,rfl,_,_,_,_,_,_,_,_,_,_,_,_,_,_,_,_,_,_,_,_,_,_,_,_,rfl,rfl,hF.1.a6 Dx L6 Yp,hF.2⟩
  ·obtain rfl:b13=false:=Z5 hr;obtain rfl:b0=true:=Z4 hr 0;obtain rfl:b1=true:=Z4 hr 1;obtain rfl:b2=true:=Z4 hr 2;obtain rfl:b5=true:=Z4 hr 5;obtain rfl:b6=true:=Z4 hr 6;obtain rfl:b7=true:=Z4 hr 7;obtain rfl:b12=true:=Z4 hr 12;obtain rfl:=O7 hF.1.o14 rfl;obtain⟨d9,rfl,rfl,rfl,rfl,rfl,rfl,Qj⟩:=hF.1.a13;refine ZW rfl (by kernel_rfl) (some 20) rfl (.agg (O4 c 0 d9)) V (by kernel_rfl) ?_;exact⟨_,_,_,_,_,_,_,_,_,_,_,_,_,_,_,_,_,_,_,_,_,_,_,_,rfl,rfl,Qj,hF.2⟩
  ·obtain rfl:b14=false:=Z5 hr;obtain rfl:b13=true:=Z4 hr 13;obtain rfl:=O7 hF.2 rfl;obtain⟨rfl,rfl,rfl,rfl,rfl,rfl⟩:=hF.1.n14;obtain⟨d9,rfl,Qj⟩:=hF.1.a14;refine ZW rfl (by kernel_rfl) (some 21) rfl (Z7 V.heap.size 0) (V.alloc (.cells (O4 c 0 d9) 95)) (by kernel_rfl) ?_;exact⟨_,_,_,_,_,_,_,_,_,_,_,_,_,_,_,_,_,_,_,_,_,_,_,_,rfl,rfl,Qj,fun h=>nomatch h⟩
  ·obtain rfl:b15=false:=Z5 hr;obtain rfl:b14=true:=Z4 hr 14;refine ZW rfl (by kernel_rfl) (some 2) rfl (x21) V (by kernel_rfl) ?_;exact⟨_,_,_,_,_,_,_,_,_,_,_,_,_,_,_,_,_,_,_,_,_,_,_,_,rfl,rfl,hF.1,fun _=>rfl⟩
 ·intro ZH V hJ;obtain⟨b0,b1,b2,b3,b4,b5,b6,b7,b8,b9,b10,b11,b12,b13,b14,b15,x8,x9,x12,x13,x14,x19,x20,x21,he,rfl,hF⟩:=hJ;have he:(#[true,true,true,true,true,true,true,true,true,true,true,true,true,true,true,true]:Array Bool)=#[b0,b1,b2,b3,b4,b5,b6,b7,b8,b9,b10,b11,b12,b13,b14,b15]:=he;simp only[Array.mk.injEq,List.cons.injEq,and_true] at he;obtain⟨rfl,rfl,rfl,rfl,rfl,rfl,rfl,rfl,rfl,rfl,rfl,rfl,rfl,rfl,rfl,rfl⟩:=he;simp only[cond_true];obtain⟨d9,s9,hk9,-,-,-,-,-,-,-,h14⟩:=hF.1.ex;obtain⟨g9,rfl,JO,AO,OZ⟩:=h14 rfl;obtain⟨S9,Ua,L6⟩:=hk9.pool JO AO OZ HCV.out;have HE:Hid (PO (.returned (Z7 g9 0)) V):=Z8 (by rw[<- HPO.out]; exact⟨g9,S9,rfl,Ua,fun k hk=>Nat.le_trans Um.out.size (L6 k hk),Um.out.trans (hF.1.bel.mono Um.out.size)⟩);clear hF h0 hk9 h14 JO AO OZ Ua L6;go_wp2_with fail;exact HE.out
theorem aX {c:List Int}(hc:Cg.VU c)(hv:Cg.Ve c≠0)(w:World):Calls Tryz.prog 26 #[.agg (Zu c)] w (NwO w Cg.Ru):=by
 obtain⟨vv,hvv⟩:=ZR (Cg.Ve c);have HV:Hid (∀ U,Calls Tryz.prog 52 #[.agg (Zu c)] U fun e w'=>e=.returned (Z9 vv)/\Below U.heap.size U w'):=Z8 fun U=>by
  have:=Cg.AP hc U;rw[hvv] at this;exact this
 rw[hvv] at hv;have HVV:=Z8 hv;have HD:Hid (∀ U,Calls Tryz.prog 53 #[] U fun e w'=>e=.returned (.agg (Zu Cg.Ru))/\Below U.heap.size U w'):=Z8 fun U=>Cg.yT U;have HCV:Hid (LY Cg.Ru):=Z8 LY.dflt;obtain⟨df,hdf⟩:=ZR Cg.Ru;rw[hdf] at HD HCV ⊢;obtain⟨PO,Yi⟩:=ZR (NwO w df);have HPO:=Z8 Yi;rw[Yi];clear hc hv hvv hdf Yi;go_enter Tryz.func26,Tryz.ntmps26;go_upto_region 1 with fail;change Code.wp _ _ _ _ (w.alloc (.cells (Zu c) 25));have Zd:Below w.heap.size w (w.alloc (.cells (Zu c) 25)):=(Below.refl _ w).alloc (Nat.le_refl _) _;have hX1:Bx (w.alloc (.cells (Zu c) 25)) w.heap.size (Zu c) 25:=heap_alloc_last w _;have Yg:(w.alloc (.cells (Zu c) 25)).heap.size=w.heap.size+1:=by simp
 generalize w.alloc (.cells (Zu c) 25)=W at *
 obtain⟨g1,hg1⟩:=ZR w.heap.size;rw[hg1] at hX1;have Xm:Hid (g1=w.heap.size+0/\W.heap.size=w.heap.size+1):=Z8 ⟨by omega,by omega⟩;have HB:=Z8 Zd;simp only[hg1];clear Zd Yg hg1;refine wl<|ZC rfl ⟨g1,0,none⟩ (.agg (Zu c)) (Xd hX1)<|YD (Z9 vv) (fun w'=>Below W.heap.size W w') (HV.out W) (fun V1 hV1=>?_);refine Zg (SL rfl vv 0 (decide_eq_true HVV.out))<|wn ?_;simp only[pu];have HB1:=Z8 (HB.out.trans (hV1.mono HB.out.size));have hX1:=hX1.below hX1.lt hV1;clear hV1;go_upto_region 2 with fail;refine wl<|YD (.agg (Zu df)) (fun w'=>Below V1.heap.size V1 w') (HD.out V1) (fun V2 hV2=>?_);obtain⟨V3,hst3,gI,Ya⟩:=st_all (cs':=Zu df) (ty:=25) (hX1.below hX1.lt hV2) rfl (by kernel_rfl) (by kernel_rfl);refine Yb rfl (hst3)<|wn ?_;have Um:Hid (Below w.heap.size w V3):=Z8 ((HB1.out.trans (hV2.mono HB1.out.size)).trans (Ya.1.mono (by have:=Xm.out; omega)));have hX1:=gI;clear hV2 Ya hst3 gI;have h0:=And.intro (KN.start V3 df undef undef undef undef undef undef undef undef) (fun h:false=true=>h);have LU:=Z8 hX1;clear hX1;go_upto_region 3 with fail;refine ZK (fun listed ZH V=>∃ b0 b1 b2 b3 b4 b5 b6 b7 b8 b9 b10 b11 b12 b13 b14 b15:Bool,∃ x8 x9 x12 x13 x14 x19 x20 x21:Value,listed=#[b0,b1,b2,b3,b4,b5,b6,b7,b8,b9,b10,b11,b12,b13,b14,b15]/\ZH={ tmps:=#[.agg (Zu c),Z7 g1 0,(cond b15 (x21) (.pointer none)),.agg (Zu c),Z9 vv,ZX,.agg (Zu df),(cond b0 (.agg (Zu df)) undef),x8,x9,(cond b3 (Z7 g1 0) undef),(cond b4 (Z9 (df.getD 0 0)) undef),x12,x13,x14,(cond b8 (Z7 g1 4) undef),(cond b9 (Z9 (df.getD 4 0)) undef),(cond b10 (Z7 g1 5) undef),(cond b11 (Z9 (df.getD 5 0)) undef),x19,x20,x21],defers:=[] }/\KN V3 df b1 b2 b5 b6 b7 b12 b13 b14 x8 x9 x12 x13 x14 x19 x20 x21 V/\(b15=true->b14=true)) (by kernel_rfl) (by kernel_rfl) ?_ ?_ ?_
 ·exact⟨_,_,_,_,_,_,_,_,_,_,_,_,_,_,_,_,_,_,_,_,_,_,_,_,rfl,rfl,h0⟩
 ·intro i9 listed ZH V hi9 hr hJ;obtain⟨b0,b1,b2,b3,b4,b5,b6,b7,b8,b9,b10,b11,b12,b13,b14,b15,x8,x9,x12,x13,x14,x19,x20,x21,rfl,rfl,hF⟩:=hJ;have hi2:i9<16:=hi9;have hi3:i9=0∨i9=1∨i9=2∨i9=3∨i9=4∨i9=5∨i9=6∨i9=7∨i9=8∨i9=9∨i9=10∨i9=11∨i9=12∨i9=13∨i9=14∨i9=15:=by omega
  rcases hi3 with rfl | rfl | rfl | rfl | rfl | rfl | rfl | rfl | rfl | rfl | rfl | rfl | rfl | rfl | rfl | rfl
  ·obtain rfl:b0=false:=Z5 hr;refine ZI rfl (by kernel_rfl) (some 7) rfl 25 (.tmp 1) rfl ⟨g1,0,none⟩ (.agg (Zu df)) (by kernel_rfl) (Xd (LU.out.below LU.out.lt hF.1.bel)) ?_;exact⟨_,_,_,_,_,_,_,_,_,_,_,_,_,_,_,_,_,_,_,_,_,_,_,_,rfl,rfl,hF⟩
  ·obtain rfl:b1=false:=Z5 hr;obtain⟨rfl,rfl⟩:=hF.1.off (fun h=>nomatch h.1);refine ZW rfl (by kernel_rfl) (some 8) rfl (.map (some V.heap.size)) (V.alloc (.map #[] 0)) (Ex.SK 89 rfl) ?_;exact⟨_,_,_,_,_,_,_,_,_,_,_,_,_,_,_,_,_,_,_,_,_,_,_,_,rfl,rfl,hF.1.a1,hF.2⟩
  ·obtain rfl:b2=false:=Z5 hr;obtain⟨rfl,rfl⟩:=hF.1.off (fun h=>nomatch h.2.1);refine ZW rfl (by kernel_rfl) (some 9) rfl (.map (some V.heap.size)) (V.alloc (.map #[] 0)) (Ex.SK 88 rfl) ?_;exact⟨_,_,_,_,_,_,_,_,_,_,_,_,_,_,_,_,_,_,_,_,_,_,_,_,rfl,rfl,hF.1.a2,hF.2⟩
  ·obtain rfl:b3=false:=Z5 hr;refine ZW rfl (by kernel_rfl) (some 10) rfl (Z7 g1 0) V (by kernel_rfl) ?_;exact⟨_,_,_,_,_,_,_,_,_,_,_,_,_,_,_,_,_,_,_,_,_,_,_,_,rfl,rfl,hF⟩
  ·obtain rfl:b4=false:=Z5 hr;obtain rfl:b3=true:=Z4 hr 3;refine ZI rfl (by kernel_rfl) (some 11) rfl 3 (.tmp 10) rfl ⟨g1,0,none⟩ (Z9 (df.getD 0 0)) (by kernel_rfl) ((LU.out.below LU.out.lt hF.1.bel).ZM 0) ?_;exact⟨_,_,_,_,_,_,_,_,_,_,_,_,_,_,_,_,_,_,_,_,_,_,_,_,rfl,rfl,hF⟩
  ·obtain rfl:b5=false:=Z5 hr;obtain rfl:b4=true:=Z4 hr 4;obtain⟨rfl,rfl⟩:=hF.1.off (fun h=>nomatch h.2.2.1);refine Zl rfl (by kernel_rfl) (some 12) rfl 54 #[Z9 (df.getD 0 0)] (by kernel_rfl) ((Sl.P9 (df.getD 0 0) V).mono ?_);rintro e9 V9 ⟨g9,S9,rfl,Dx,L6,Yp⟩;exact⟨_,rfl,_,_,_,_,_,_,_,_,_,_,_,_,_,_,_,_,_,_,_,_,_,_,_,_,rfl,rfl,hF.1.a3 Dx L6 Yp,hF.2⟩
  ·obtain rfl:b6=false:=Z5 hr;obtain⟨rfl,rfl⟩:=hF.1.off (fun h=>nomatch h.2.2.2.1);refine Zl rfl (by kernel_rfl) (some 13) rfl 55 #[] (by kernel_rfl) ((Hp.gu V).mono ?_);rintro e9 V9 ⟨g9,S9,rfl,Dx,L6,Yp⟩;exact⟨_,rfl,_,_,_,_,_,_,_,_,_,_,_,_,_,_,_,_,_,_,_,_,_,_,_,_,rfl,rfl,hF.1.a4 Dx L6 Yp,hF.2⟩
  ·obtain rfl:b7=false:=Z5 hr;obtain⟨rfl,rfl⟩:=hF.1.off (fun h=>nomatch h.2.2.2.2.1);refine Zl rfl (by kernel_rfl) (some 14) rfl 56 #[] (by kernel_rfl) ((Sd.P9 V).mono ?_);rintro e9 V9 ⟨g9,S9,rfl,Dx,L6,Yp⟩;exact⟨_,rfl,_,_,_,_,_,_,_,_,_,_,_,_,_,_,_,_,_,_,_,_,_,_,_,_,rfl,rfl,hF.1.a5 Dx L6 Yp,hF.2⟩
  ·obtain rfl:b8=false:=Z5 hr;refine ZW rfl (by kernel_rfl) (some 15) rfl (Z7 g1 4) V (by kernel_rfl) ?_;exact⟨_,_,_,_,_,_,_,_,_,_,_,_,_,_,_,_,_,_,_,_,_,_,_,_,rfl,rfl,hF⟩
  ·obtain rfl:b9=false:=Z5 hr;obtain rfl:b8=true:=Z4 hr 8;refine ZI rfl (by kernel_rfl) (some 16) rfl 3 (.tmp 15) rfl ⟨g1,4,none⟩ (Z9 (df.getD 4 0)) (by kernel_rfl) ((LU.out.below LU.out.lt hF.1.bel).ZM 4) ?_;exact⟨_,_,_,_,_,_,_,_,_,_,_,_,_,_,_,_,_,_,_,_,_,_,_,_,rfl,rfl,hF⟩
  ·obtain rfl:b10=false:=Z5 hr;refine ZW rfl (by kernel_rfl) (some 17) rfl (Z7 g1 5) V (by kernel_rfl) ?_;exact⟨_,_,_,_,_,_,_,_,_,_,_,_,_,_,_,_,_,_,_,_,_,_,_,_,rfl,rfl,hF⟩
  ·obtain rfl:b11=false:=Z5 hr;obtain rfl:b10=true:=Z4 hr 10;refine ZI rfl (by kernel_rfl) (some 18) rfl 3 (.tmp 17) rfl ⟨g1,5,none⟩ (Z9 (df.getD 5 0)) (by kernel_rfl) ((LU.out.below LU.out.lt hF.1.bel).ZM 5) ?_;exact⟨_,_,_,_,_,_,_,_,_,_,_,_,_,_,_,_,_,_,_,_,_,_,_,_,rfl,rfl,hF⟩
  ·obtain rfl:b12=false:=Z5 hr;obtain rfl:b9=true:=Z4 hr 9;obtain rfl:b11=true:=Z4 hr 11;obtain⟨rfl,rfl⟩:=hF.1.off (fun h=>nomatch h.2.2.2.2.2);refine Zl rfl (by kernel_rfl) (some 19) rfl 57 #[Z9 (df.getD 4 0),Z9 (df.getD 5 0)] (by kernel_rfl) ((Ex.P9 (df.getD 4 0) (df.getD 5 0) V).mono ?_);rintro e9 V9 ⟨g9,S9,rfl,Dx,L6,Yp⟩;exact⟨_,rfl,_,_,_,_,_,_,_,_,_,_,_,_,_,_,_,_,_,_,_,_,_,_,_,_,rfl,rfl,hF.1.a6 Dx L6 Yp,hF.2⟩
  ·obtain rfl:b13=false:=Z5 hr;obtain rfl:b0=true:=Z4 hr 0;obtain rfl:b1=true:=Z4 hr 1;obtain rfl:b2=true:=Z4 hr 2;obtain rfl:b5=true:=Z4 hr 5;obtain rfl:b6=true:=Z4 hr 6;obtain rfl:b7=true:=Z4 hr 7;obtain rfl:b12=true:=Z4 hr 12;obtain rfl:=O7 hF.1.o14 rfl;obtain⟨d9,rfl,rfl,rfl,rfl,rfl,rfl,Qj⟩:=hF.1.a13;refine ZW rfl (by kernel_rfl) (some 20) rfl (.agg (O4 df 0 d9)) V (by kernel_rfl) ?_;exact⟨_,_,_,_,_,_,_,_,_,_,_,_,_,_,_,_,_,_,_,_,_,_,_,_,rfl,rfl,Qj,hF.2⟩
  ·obtain rfl:b14=false:=Z5 hr;obtain rfl:b13=true:=Z4 hr 13;obtain rfl:=O7 hF.2 rfl;obtain⟨rfl,rfl,rfl,rfl,rfl,rfl⟩:=hF.1.n14;obtain⟨d9,rfl,Qj⟩:=hF.1.a14;refine ZW rfl (by kernel_rfl) (some 21) rfl (Z7 V.heap.size 0) (V.alloc (.cells (O4 df 0 d9) 95)) (by kernel_rfl) ?_;exact⟨_,_,_,_,_,_,_,_,_,_,_,_,_,_,_,_,_,_,_,_,_,_,_,_,rfl,rfl,Qj,fun h=>nomatch h⟩
  ·obtain rfl:b15=false:=Z5 hr;obtain rfl:b14=true:=Z4 hr 14;refine ZW rfl (by kernel_rfl) (some 2) rfl (x21) V (by kernel_rfl) ?_;exact⟨_,_,_,_,_,_,_,_,_,_,_,_,_,_,_,_,_,_,_,_,_,_,_,_,rfl,rfl,hF.1,fun _=>rfl⟩
 ·intro ZH V hJ;obtain⟨b0,b1,b2,b3,b4,b5,b6,b7,b8,b9,b10,b11,b12,b13,b14,b15,x8,x9,x12,x13,x14,x19,x20,x21,he,rfl,hF⟩:=hJ;have he:(#[true,true,true,true,true,true,true,true,true,true,true,true,true,true,true,true]:Array Bool)=#[b0,b1,b2,b3,b4,b5,b6,b7,b8,b9,b10,b11,b12,b13,b14,b15]:=he;simp only[Array.mk.injEq,List.cons.injEq,and_true] at he;obtain⟨rfl,rfl,rfl,rfl,rfl,rfl,rfl,rfl,rfl,rfl,rfl,rfl,rfl,rfl,rfl,rfl⟩:=he;simp only[cond_true];obtain⟨d9,s9,hk9,-,-,-,-,-,-,-,h14⟩:=hF.1.ex;obtain⟨g9,rfl,JO,AO,OZ⟩:=h14 rfl;obtain⟨S9,Ua,L6⟩:=hk9.pool JO AO OZ HCV.out;have HE:Hid (PO (.returned (Z7 g9 0)) V):=Z8 (by rw[<- HPO.out]; exact⟨g9,S9,rfl,Ua,fun k hk=>Nat.le_trans Um.out.size (L6 k hk),Um.out.trans (hF.1.bel.mono Um.out.size)⟩);clear hF h0 hk9 h14 JO AO OZ Ua L6;go_wp2_with fail;exact HE.out
theorem I7 {c:List Int}(hc:Cg.VU c)(w:World):Calls Tryz.prog 26 #[.agg (Zu c)] w (NwO w (Gt c)):=by
 unfold Gt;by_cases hv:Cg.Ve c=0
 ·rw[if_pos hv]; exact aY hc hv w
 ·rw[if_neg hv]; exact aX hc hv w
end Go.Proofs.YtnelmomagdcmnaaGreat
