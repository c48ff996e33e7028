/-
  Texts joined.
-/
import Derived.Test.YtnelmomagdcmnaaGreatD13
set_option maxRecDepth 100000
set_option maxHeartbeats 8000000
set_option linter.unusedSimpArgs false
set_option linter.unusedVariables false
namespace Go.Proofs.YtnelmomagdcmnaaGreat.Sd
attribute [local irreducible] wpList wpQuiet
open Go.RowKit
theorem Ji (w:World)(n:Nat)(hn:n<=100000):∃ W1,(Instr.makeSlice 22 (Z9 0) (Z9 (n:Int))).run Tryz.prog w=.ok (.slice (some ⟨w.heap.size,0,none⟩) 0 n) W1/\Zd W1 w.heap.size (.slice (some ⟨w.heap.size,0,none⟩) 0 n) []/\Below w.heap.size w W1:=by
 obtain⟨i0,hi,hz0,hz1,hz2⟩:=info_parts Ut;have h:=run_make (P:=Tryz.prog) w 22 3 i0 (Z9 0) Tryz.underlying22 hi hz0 .i64 .i64 0 (n:Int) (by omega) (by omega) (by rw[hz2]; omega) (by omega);refine⟨_,h.trans rfl,?_,(Below.refl _ w).alloc (Nat.le_refl _) _⟩;have h2:=VJ w 3 1 0 n (madeCells (Value.int .i64 0).cells (((n:Int)).toNat * i0.size)) (by rw[size_madeCells,hz1]; simp) (Nat.zero_le _) (by unfold maxLen; omega);rw[Nat.zero_mul,List.take_zero] at h2;exact h2
theorem FX {P:Program}{ρ:Operand->Value}{o:Oper}{x y:Operand}{w w2:World}{ty:TypeId}{vx vy v:Value}(ho:o.op=.makeSlice ty x y)(hs:(Instr.makeSlice ty vx vy).run P w=.ok v w2)(hx:ρ x=vx)(hy:ρ y=vy):(execOp ρ o).run P w=.ok (.value v) w2:=by
 unfold execOp;simp only[ho,hx,hy,Sem.run_bind,hs];rfl
theorem IK {ρ:Operand->Value}{o:Oper}{x y:Operand}(ho:o.op=.binOp .sub 3 x y 3)(a b:Nat)(h:a+b<=1000000)(hx:ρ x=Z9 ((a+b:Nat):Int))(hy:ρ y=Z9 a)(w:World):(execOp ρ o).run Tryz.prog w=.ok (.value (Z9 b)) w:=by
 have:=TQ ho ((a+b:Nat):Int) a (by omega) hx hy w;rwa [show((a+b:Nat):Int)-(a:Int)=(b:Int) by omega] at this
theorem IJ (a:Option Addr)(n c i j:Nat)(w:World)(h2:i+j<=c):(Instr.slice 132 (.slice a n c) (some (Z9 (i:Int))) (some (Z9 ((i+j:Nat):Int))) none).run Tryz.prog w=.ok (.slice (Yc 2 a c i) j (c-i)) w:=by
 have h:=JB a n c i (i+j) w (by omega) h2;rwa [Nat.add_sub_cancel_left] at h
theorem DU {E:List Eo}{i:Nat}(hi:i<E.length):Xi (E.take (i+1))=Xi (E.take i)++[(Yv E i).2]:=by
 unfold Xi Yv;rw[List.take_add_one,List.getElem?_eq_getElem hi,Option.toList_some,List.map_append,getD_lt E i Wn hi];rfl
theorem II {E:List Eo}(hs:KY E){q:Int}{ct:Nat}(h:∀ e∈E.drop ct,q<=e.1):∀ j,ct+j<E.length->q+j<=(Yv E (ct+j)).1
 | 0,hj=>by
  have:Yv E (ct+0)∈E.drop ct:=by
   unfold Yv;rw[getD_lt E (ct+0) Wn hj];exact List.mem_drop_iff_getElem.2 ⟨0,by omega,rfl⟩
  have:=h _ this;simpa using this
 | j+1,hj=>by
  have h1:=II hs h j (by omega);have h2:=of_decide_eq_true (hs (ct+j) (ct+(j+1)) (by omega) hj);omega
theorem GR {E:List Eo}{i:Nat}{q:Int}(hi:i<E.length):VF (E.drop i) q=if (Yv E i).1=q then VF (E.drop (i+1)) (q+1)+1 else 0:=by
 unfold Yv;rw[getD_lt E i Wn hi,List.drop_eq_getElem_cons hi,VF]
theorem DT {E:List Eo}{i:Nat}{q:Int}(hi:E.length<=i):VF (E.drop i) q=0:=by
 rw[List.drop_of_length_le hi]; rfl
theorem wY {w:World}{a:Option Addr}{c:Nat}{E:List Eo}(hR:Cs w a (encs E))(hl:E.length<=10000):Calls Tryz.prog 76 #[.slice a E.length c] w (PZ w (Xi E)):=by
 have PL:Hid (∀ V,Below w.heap.size w V->∀ i,i<E.length->∃ b off,a=some ⟨b,off,none⟩/\V.rangeAt b (off+i*2) (YN (Yv E i))):=Z8 fun V hV i hi=>by
  obtain⟨b,off,h1,-,h2⟩:=UZ (hR.below hV) hi;exact⟨b,off,h1,h2⟩
 have HST:Hid (∀ i,i<E.length->Xi (E.take (i+1))=Xi (E.take i)++[(Yv E i).2]):=Z8 fun i hi=>DU hi;have MX:Hid (∀ i,(Xi (E.take i)).length<=10000):=Z8 fun i=>by
  unfold Xi;rw[List.length_map,List.length_take]; omega
 have Yh:Hid (∀ V v,Below w.heap.size w V->Zd V w.heap.size v (Xi (E.take E.length))->PZ w (Xi E) (.returned v) V):=Z8 fun V v hV h=>⟨v,rfl,by rw[List.take_length] at h; exact h,hV⟩;obtain⟨PO,Yo⟩:=ZR (PZ w (Xi E));rw[Yo] at Yh ⊢;obtain⟨n,hn⟩:=ZR E.length;rw[hn] at PL HST Yh hl ⊢;obtain⟨W1,hmk,hr1,hb1⟩:=Ji w n (by omega);have HR1:=Z8 hr1;have HB1:=Z8 hb1;clear hR hn Yo hr1 hb1;go_enter Tryz.func76,Tryz.ntmps76;go_upto_region 1 with fail;refine wl<|ZA (.slice a n c) (Z9 n) ?_;refine VR (by kernel_rfl) (some 8) rfl (.slice (some ⟨w.heap.size,0,none⟩) 0 n) W1 (FX rfl hmk (by kernel_rfl) (by kernel_rfl)) ?_;refine ZN (.slice (some ⟨w.heap.size,0,none⟩) 0 n)<|wn ?_;simp only[pu];clear hmk;go_upto_region 2 with fail;refine wl<|YU (.slice a n c) (Z9 n) (Z9 0)<|wn ?_;simp only[pu];go_wp2_with fail;go_loopg [3,11] n (fun gg s3 s11 wx=>∃ (i:Nat) (v:Value),s11=Z9 i/\s3=v/\i<=n/\gg+i=n/\Hid (Zd wx w.heap.size v (Xi (E.take i)))/\Hid (Below w.heap.size w wx))
 case atStart=>exact⟨0,_,rfl,rfl,by omega,by omega,HR1,HB1⟩
 case round=>
  obtain⟨i,v,rfl,hv,hin,hg,HP,HR⟩:=hrel;obtain rfl:=hv.symm;have PN:Hid (gk+i=n):=Z8 hg;clear hg HR1 HB1;by_cases hlt:i<n
  ·obtain⟨b,off,hbb,hrg⟩:=PL.out wr HR.out i hlt;obtain rfl:=hbb;have hST:=HST.out i hlt;obtain⟨x,hx⟩:=ZR (Yv E i);rw[hx] at hrg hST;have MO:=Z8 hST;obtain⟨V2,hst2,hb2,hX2⟩:=YQ (c:=ZQ Wn) (c':=ZQ x) (ty:=168) wr rfl (Y3 x) (by kernel_rfl);have HR2:Hid (Below w.heap.size w V2):=Z8 (HR.out.trans (hb2.mono HR.out.size));have HP2:=Z8 (HP.out.below hb2);clear hST hx;go_upto_region 3 with fail;refine wl<|YF (Zv rfl (i) (n) dT)<|wn ?_;simp only[pu];go_upto_region 4 with fail;refine wl<|YT (Z7 b (off+i*2)) (Yn b off n c i hlt _ _ _ rfl (by kernel_rfl) (by kernel_rfl))<|Zq rfl ⟨b,off+i*2,none⟩ (.agg (ZQ x)) (ZC hrg) ?_;refine YP rfl (some 5) rfl (Z7 wr.heap.size 0) (wr.alloc (.cells (ZQ Wn) 168)) (by kernel_rfl) ?_;refine WC rfl (hst2)<|wn ?_;obtain⟨g5,hg5⟩:=ZR wr.heap.size;rw[hg5] at hX2 ⊢;clear hst2 hb2 hg5 hrg HR HP;have Rz:Below V2.heap.size V2 (V2.alloc (.cells #[Z9 (x.2)] 3)):=(Below.refl _ V2).alloc (Nat.le_refl _) _;have Io:Bx (V2.alloc (.cells #[Z9 (x.2)] 3)) V2.heap.size #[Z9 (x.2)] 3:=heap_alloc_last V2 _;obtain⟨v6,W6,UD,Xy,hb6,-,-⟩:=TY (Zd.below HP2.out Rz) (Nat.le_trans (HR2.out.size) Rz.size) (some ⟨V2.heap.size,0,none⟩) 1 1 [x.2] (Cs.block (cs:=ZM [x.2]) Io) rfl (by have:=MX.out i; omega) (by omega);have DR:Below w.heap.size V2 W6:=(Rz.mono (HR2.out.size)).trans hb6;go_upto_region 5 with fail;refine wl<|ZA (v) (Z7 g5 1)<|Zq rfl ⟨g5,1,none⟩ (Z9 x.2) (hX2.ZL 1) ?_;refine YM (by kernel_rfl) (some 18) rfl 22 1 #[(0,.tmp 17)] rfl #[(0,Z9 (x.2))] (by kernel_rfl) (.slice (some ⟨V2.heap.size,0,none⟩) 1 1) _ (TU (x.2) V2) ?_;refine Y5 rfl (some 19) rfl 22 rfl (.tmp 15) (.tmp 18) 22 rfl (v) (.slice (some ⟨V2.heap.size,0,none⟩) 1 1) (v6) W6 (by kernel_rfl) (by kernel_rfl) UD ?_;refine ZN (v6)<|wn ?_;simp only[pu];have BI:=Z8 (HR2.out.trans DR);have BH:Hid (Zd W6 w.heap.size v6 (Xi (E.take (i+1)))):=Z8 (by rw[MO.out]; exact Xy);clear UD Xy hb6 DR Rz Io HP2 HR2 hX2 MO;go_upto_region 6 with fail;refine wl<|YT (Z9 (i+1:Nat)) (add_one rfl i (by omega) (by kernel_rfl) _)<|ZN (Z9 (i+1:Nat))<|wn ?_;simp only[pu];go_wp2_with fail;go_roundg (n-(i+1))
   case measure=>have:=PN.out; omega
   case rel=>exact⟨i+1,v6,rfl,rfl,by omega,by omega,BH,BI⟩
  ·obtain rfl:i=n:=(by omega);go_upto_region 3 with fail;refine wl<|YF (Zv rfl (i) (i) dF)<|wn ?_;simp only[pu];have HE:=Z8 (Yh.out wr v HR.out HP.out);clear HP HR Yh HST PL;go_upto_region 7 with fail;refine wl<|ZA (v) (v)<|wn ?_;simp only[pu];go_wp2_with fail;exact HE.out
theorem GN {w:World}{p v:Value}{n:ByteArray}{E:List Eo}(CL:Calls Tryz.prog 77 #[p,.string n] w fun e w'=>e=.returned v/\w=w')(h:ZE w 0 v E)(hl:E.length<=10000):Calls Tryz.prog 44 #[p,.string n] w (PZ w (Xi E)):=by
 obtain⟨a,c,rfl,hcs,-⟩:=h.cs;have CI:=wY (c:=c) hcs hl;obtain⟨k,hk⟩:=ZR E.length;rw[hk] at CL CI;obtain⟨PO,Yo⟩:=ZR (PZ w (Xi E));have qC:Hid (∀ e w',PO e w'->∃ v,e=.returned v/\PO (.returned v) w'):=Z8 (by rw[<- Yo]; rintro e w' ⟨v,rfl,h1⟩; exact⟨v,rfl,v,rfl,h1⟩);rw[Yo] at CI ⊢;clear Yo h hl hcs hk;go_enter Tryz.func44,Tryz.ntmps44;go_upto_region 1 with fail;refine wl<|ZA (p) (.string n)<|Yd (.slice a k c) (fun w'=>w=w') (CL) (fun V9 X9=>?_);subst X9;refine Vx (fun u w'=>PO (.returned u) w') (CI.mono fun e w' z=>by obtain⟨u,h1,h2⟩:=qC.out e w' z; exact⟨u,h1,h2⟩) (fun v9 V9 h9=>?_);have HE:=Z8 h9;refine ZN (v9)<|wn ?_;simp only[pu];clear CI h9 qC CL;go_wp2_with fail;exact HE.out
theorem DN {w:World}{p v:Value}{n:ByteArray}{E:List Eo}(CL:Calls Tryz.prog 77 #[p,.string n] w fun e w'=>e=.returned v/\w=w')(h:ZE w 0 v E)(hs:Vt E)(hw:∀ e∈E,W64 e.1)(hl:E.length<=10000){q:Int}(hq:W64 q):Calls Tryz.prog 85 #[p,.string n,ZY q] w (PZ w (RI E q)):=by
 have CP:=Qg h hs (by omega) q;obtain⟨a,c,rfl,hcs,hcc⟩:=h.cs;obtain⟨-,hdr⟩:=QI (q:=q) hs;have hcl:=cnt_le E q;have hrl:=NU (E.drop (Zw E q)) q;rw[List.length_drop] at hrl;have DL:Hid (∀ j,Zw E q+j<E.length->q+j<=(Yv E (Zw E q+j)).1/\(Yv E (Zw E q+j)).1<=18446744073709551615):=Z8 fun j hj=>⟨II (y7 hs) hdr j hj,(hw _ (Q8 hj)).2⟩;have Cb:Hid (∀ i r,i<E.length->VF (E.drop i) r=if (Yv E i).1=r then VF (E.drop (i+1)) (r+1)+1 else 0):=Z8 fun i r hi=>GR hi;have ig:Hid (∀ i r,E.length<=i->VF (E.drop i) r=0):=Z8 fun i r hi=>DT hi;have PL:Hid (∀ V,Below w.heap.size w V->∀ i,i<E.length->∃ b off,a=some ⟨b,off,none⟩/\V.rangeAt b (off+i*2) (YN (Yv E i))):=Z8 fun V hV i hi=>by
  obtain⟨b,off,h1,-,h2⟩:=UZ (hcs.below hV) hi;exact⟨b,off,h1,h2⟩
 have pO:Hid (∀ V,Below w.heap.size w V->Calls Tryz.prog 76 #[.slice (Yc 2 a c (Zw E q)) (VF (E.drop (Zw E q)) q) (c-Zw E q)] V (PZ V (RI E q))):=Z8 fun V hV=>by
  have h1:=((hcs.below hV).from 2 c (Zw E q) (by rw[Y0]; omega)).take (VF (E.drop (Zw E q)) q*2);rw[WZ,W9] at h1;have h2:=wY (c:=c-Zw E q) h1 (by rw[List.length_take,List.length_drop]; omega);rw[List.length_take,List.length_drop,Nat.min_eq_left hrl] at h2;exact h2
 have Yh:Hid (∀ V V' e,Below w.heap.size w V->PZ V (RI E q) e V'->∃ u,e=.returned u/\PZ w (RI E q) (.returned u) V'):=Z8 fun V V' e hV z=>by
  obtain⟨u,rfl,h1,h2⟩:=z;exact⟨u,rfl,u,rfl,own_base h1 hV.size,hV.trans (h2.mono hV.size)⟩
 obtain⟨PO,Yo⟩:=ZR (PZ w (RI E q));rw[Yo] at Yh ⊢;generalize Xk E q=hb at *
 obtain⟨ct,hct⟩:=ZR (Zw E q);rw[hct] at CP DL pO hcl hrl;obtain⟨R,hR⟩:=ZR (VF (E.drop ct) q);rw[hR] at pO;rw[hR] at hrl;have HR0:Hid (R=0+VF (E.drop (ct+0)) (q+(0:Nat))):=Z8 (by rw[<- hR]; simp);generalize RI E q=X at *
 obtain⟨k,hk⟩:=ZR E.length;rw[hk] at CL CP PL DL Cb ig hcl hrl hl hcc;have HQ:=Z8 hq;clear Yo h hcs hk hs hw hdr hct hR hq;go_enter Tryz.func85,Tryz.ntmps85;go_upto_region 1 with fail;refine wl<|ZA (p) (.string n)<|Yd (.slice a k c) (fun w'=>w=w') (CL) (fun V9 X9=>?_);subst X9;refine ZN (.slice a k c)<|wn ?_;simp only[pu];clear CL;go_upto_region 2 with fail;refine wl<|ZA (.slice a k c) (ZY q)<|Yd (.tuple #[Z9 ct,.bool hb]) (fun w'=>Below w.heap.size w w') (CP) (fun W1 hW1=>?_);have HB:=Z8 hW1;refine qF (.tuple #[Z9 ct,.bool hb]) (Z9 ct) (.bool hb) (Z9 ct) (.bool hb)<|wn ?_;simp only[pu];clear CP hW1;go_upto_region 3 with fail;refine wl<|ZA (Z9 ct) (Z9 ct)<|wn ?_;simp only[pu];go_wp2_with fail;go_loopg [10] (k-ct) (fun gg s10 wx=>∃ (j:Nat),s10=Z9 (ct+j:Nat)/\ct+j<=k/\gg+(ct+j)=k/\Hid (R=j+VF (E.drop (ct+j)) (q+j))/\Hid (Below w.heap.size w wx))
 case atStart=>exact⟨0,rfl,by omega,by omega,HR0,HB⟩
 case round=>
  obtain⟨j,rfl,hjn,hg,kS,HR⟩:=hrel;have PN:Hid (gk+(ct+j)=k):=Z8 hg;clear hg HR0 HB;by_cases hlt:ct+j<k
  ·obtain⟨b,off,hbb,hrg⟩:=PL.out wr HR.out (ct+j) hlt;obtain rfl:=hbb;obtain⟨ha1,ha2⟩:=DL.out j hlt;have hrs:=Cb.out (ct+j) (q+j) hlt;have sK:=kS.out;rw[hrs] at sK;obtain⟨y,hy⟩:=ZR (Yv E (ct+j));rw[hy] at hrg ha1 ha2 sK;have hq:=HQ.out;have hwr:IntKind.u64.wrap (q+j)=q+j:=(by rw[IntKind.wrap_u64]; have:=hq.1; omega);have gZ:=Z8 hwr;clear hrs hy hwr hq;by_cases pK:y.1=q+j
   ·go_upto_region 4 with fail;refine wl<|YU (Z9 (ct+j:Nat)) (.slice (some ⟨b,off,none⟩) k c) (Z9 k)<|YF (Zv rfl ((ct+j:Nat)) (k) dT) <|
     YU ZT (.slice (some ⟨b,off,none⟩) k c) (Z9 (ct+j:Nat))<|YT (Z7 b (off+(ct+j)*2)) (Yn b off k c (ct+j) hlt _ _ _ rfl (by kernel_rfl) (by kernel_rfl))<|ZN (Z7 b (off+(ct+j)*2)) <|
     Zq rfl ⟨b,off+(ct+j)*2,none⟩ (ZY y.1) (ZK hrg (j:=0) rfl (by kernel_rfl))<|YU (ZY q) (Z9 (ct+j:Nat)) (Z9 ct)<|Yb (Z9 j) (IK rfl ct j (by omega)) <|
     YT (ZY j) (UM rfl j (by omega) (by omega) (by kernel_rfl) _)<|Yb (ZY (IntKind.u64.wrap (q+j))) (xP rfl q j) <|
     Yb ZT (QX rfl y.1 (IntKind.u64.wrap (q+j)) (by rw[gZ.out]; exact decide_eq_true pK))<|ZN ZT<|wn ?_
    simp only[pu];rw[if_pos pK] at sK;have HR3:Hid (R=(j+1)+VF (E.drop (ct+(j+1))) (q+(j+1:Nat))):=Z8 (by rw[show ct+(j+1)=ct+j+1 by omega,show q+((j+1:Nat):Int)=q+j+1 by omega]; omega);clear sK pK hrg ha1 ha2 kS gZ;go_upto_region 5 with fail;refine wl<|ZN (Z9 (ct+j:Nat))<|YT (Z9 (ct+(j+1):Nat)) (add_one rfl (ct+j) (by omega) (by kernel_rfl) _)<|ZN (Z9 (ct+(j+1):Nat))<|wn ?_;simp only[pu];go_wp2_with fail;go_roundg (k-(ct+(j+1)))
    case measure=>have:=PN.out; omega
    case rel=>exact⟨j+1,rfl,by omega,by omega,HR3,HR⟩
   ·go_upto_region 4 with fail;refine wl<|YU (Z9 (ct+j:Nat)) (.slice (some ⟨b,off,none⟩) k c) (Z9 k)<|YF (Zv rfl ((ct+j:Nat)) (k) dT) <|
     YU ZT (.slice (some ⟨b,off,none⟩) k c) (Z9 (ct+j:Nat))<|YT (Z7 b (off+(ct+j)*2)) (Yn b off k c (ct+j) hlt _ _ _ rfl (by kernel_rfl) (by kernel_rfl))<|ZN (Z7 b (off+(ct+j)*2)) <|
     Zq rfl ⟨b,off+(ct+j)*2,none⟩ (ZY y.1) (ZK hrg (j:=0) rfl (by kernel_rfl))<|YU (ZY q) (Z9 (ct+j:Nat)) (Z9 ct)<|Yb (Z9 j) (IK rfl ct j (by omega)) <|
     YT (ZY j) (UM rfl j (by omega) (by omega) (by kernel_rfl) _)<|Yb (ZY (IntKind.u64.wrap (q+j))) (xP rfl q j) <|
     Yb ZW (QX rfl y.1 (IntKind.u64.wrap (q+j)) (by rw[gZ.out]; exact decide_eq_false pK))<|ZN ZW<|wn ?_
    simp only[pu];rw[if_neg pK,Nat.add_zero] at sK;have hRj:R=j:=sK;clear sK pK hrg ha1 ha2 gZ;subst hRj;have CI:=pO.out wr HR.out;clear pO DL Cb ig PL kS;go_upto_region 6 with fail;refine wl<|YU (.slice (some ⟨b,off,none⟩) k c) (Z9 ct) (Z9 (ct+R:Nat))<|YT (.slice (Yc 2 (some ⟨b,off,none⟩) c ct) R (c-ct)) (OM rfl (IJ (some ⟨b,off,none⟩) k c ct R _ (by omega)) (by kernel_rfl) (by kernel_rfl) (by kernel_rfl)) <|
     Vx (fun u w'=>PO (.returned u) w') (CI.mono fun e w' z=>by obtain⟨u,h1,h2⟩:=Yh.out wr w' e HR.out z; exact⟨u,h1,h2⟩) (fun v9 V9 h9=>?_)
    have HE:=Z8 h9;refine ZN (v9)<|wn ?_;simp only[pu];clear CI h9 Yh HR;go_wp2_with fail;exact HE.out
  ·go_upto_region 4 with fail;refine wl<|YU (Z9 (ct+j:Nat)) (.slice a k c) (Z9 k)<|YF (Zv rfl ((ct+j:Nat)) (k) dF)<|AP ZW undef undef undef undef undef<|AP undef undef undef undef undef undef <|
    ZA undef ZW<|wn ?_
   simp only[pu];have hRj:R=j:=(by have:=kS.out; rw[ig.out (ct+j) _ (by omega)] at this; exact this);subst hRj;have CI:=pO.out wr HR.out;clear pO DL Cb ig PL kS;go_upto_region 6 with fail;refine wl<|YU (.slice a k c) (Z9 ct) (Z9 (ct+R:Nat))<|YT (.slice (Yc 2 a c ct) R (c-ct)) (OM rfl (IJ a k c ct R _ (by omega)) (by kernel_rfl) (by kernel_rfl) (by kernel_rfl)) <|
    Vx (fun u w'=>PO (.returned u) w') (CI.mono fun e w' z=>by obtain⟨u,h1,h2⟩:=Yh.out wr w' e HR.out z; exact⟨u,h1,h2⟩) (fun v9 V9 h9=>?_)
   have HE:=Z8 h9;refine ZN (v9)<|wn ?_;simp only[pu];clear CI h9 Yh HR;go_wp2_with fail;exact HE.out
theorem vW {w:World}{g:Nat}{S:Nat->Prop}{m:List Rw}(h:VK w g S m)(hl:m.length<=1000)(n:ByteArray):Calls Tryz.prog 44 #[Z7 g 0,.string n] w (PZ w (Xi (Zy m n))):=by
 obtain⟨B,f,h,-⟩:=h;obtain⟨v,hv,hrow,-⟩:=h.look n;exact GN (by rw[<- hv]; exact wX h n) hrow (by have:=Rk m n; omega)
theorem nO {w:World}{g:Nat}{S:Nat->Prop}{m:List Rw}(h:VK w g S m)(hm:FI m)(hw:RwW m)(hl:m.length<=1000)(n:ByteArray){q:Int}(hq:W64 q):Calls Tryz.prog 85 #[Z7 g 0,.string n,ZY q] w (PZ w (RI (Zy m n) q)):=by
 obtain⟨B,f,h,-⟩:=h;obtain⟨v,hv,hrow,-⟩:=h.look n;exact DN (by rw[<- hv]; exact wX h n) hrow (TN hm n) (fun e he=>hw _ (TB.1 he)) (by have:=Rk m n; omega) hq
end Go.Proofs.YtnelmomagdcmnaaGreat.Sd
namespace Go.Proofs.YtnelmomagdcmnaaGreat.Ex
open Go.RowKit
section
variable {V0 V V2 : World} {k : Wt} {L1 L2 L3 : List Wt} {b0 b1 b2 b3 bk : Bool} {x0 x1 x2 x3 xk v : Value}
end
section
variable {M : List Wt} {k : Int} {i : Nat}
end
def PZ (w:World)(L:List Int)(e:Ending)(w':World):Prop:=∃ v,e=.returned v/\Zd w' w.heap.size v L/\Below w.heap.size w w'
def gW (m:List Wt):Prop:=∀ x∈m,I64 x.2.1/\I64 x.2.2
theorem SE (w:World)(B e s:Nat):w.ownsRow B e s (.slice none 0 0) 0 []:=⟨by simp,.inl ⟨rfl,rfl⟩⟩
theorem rQ {a b:Int}(ha:I64 a)(hb:I64 b)(h:b<a):IntKind.u64.wrap (IntKind.u64.wrap a-IntKind.u64.wrap b)=a-b:=by
 obtain⟨h1,h2⟩:=ha;obtain⟨h3,h4⟩:=hb;rw[IntKind.wrap_u64,IntKind.wrap_u64,IntKind.wrap_u64];omega
theorem ku {a:Int}(h:0<=a)(ha:I64 a):IntKind.u64.wrap a=a:=by
 obtain⟨h1,h2⟩:=ha;rw[IntKind.wrap_u64];omega
section
variable {ρ : Operand -> Value} {o : Oper} {x y : Operand}
theorem aQ (ho:o.op=.convert 3 185 x)(a:Int)(hx:ρ x=Z9 a)(w:World):(execOp ρ o).run Tryz.prog w=.ok (.value (ZY (IntKind.u64.wrap a))) w:=by
 unfold execOp;go_simp
theorem sbU (ho:o.op=.binOp .sub 185 x y 185)(a b:Int)(hx:ρ x=ZY a)(hy:ρ y=ZY b)(w:World):(execOp ρ o).run Tryz.prog w=.ok (.value (ZY (IntKind.u64.wrap (a-b)))) w:=by
 unfold execOp;go_simp
theorem gtU (ho:o.op=.binOp .gtr 185 x y 185)(a b:Int){t:Bool}(ht:decide (b<a)=t)(hx:ρ x=ZY a)(hy:ρ y=ZY b)(w:World):(execOp ρ o).run Tryz.prog w=.ok (.value (.bool t)) w:=by
 rw[<- ht];unfold execOp;go_simp
end
section
variable {ρ : Operand -> Value} {o : Oper} {x y : Operand}
end
end Go.Proofs.YtnelmomagdcmnaaGreat.Ex
namespace Go.Proofs.YtnelmomagdcmnaaGreat.Ex
attribute [local irreducible] wpList wpQuiet
open Go.RowKit
section
variable {P : Program} {o : Oper} {a : Act} {w w2 : World}
theorem Yy (ty:TypeId)(x y:Operand)(b:Bool)(ho:o.op=.lookup ty x y b)(vx vy v:Value)(hx:a.eval x=vx)(hy:a.eval y=vy)(hr:(Instr.lookup ty vx vy b).run P w=.ok v w):(execOp a.eval o).run P w=.ok (.value v) w:=by
 unfold execOp;simp only[ho,hx,hy,Sem.run_bind,hr];rfl
theorem Vu (ty:TypeId)(x y z:Operand)(ho:o.op=.mapUpdate ty x y z)(vx vy vz:Value)(hx:a.eval x=vx)(hy:a.eval y=vy)(hz:a.eval z=vz)(hr:(Instr.mapUpdate ty vx vy vz).run P w=.ok () w2):(execOp a.eval o).run P w=.ok .skip w2:=by
 unfold execOp;simp only[ho,hx,hy,hz,Sem.run_bind,hr];rfl
theorem Vw (ty:TypeId)(ho:o.op=.makeMap ty none):(execOp a.eval o).run P w=.ok (.value (.map (some w.heap.size))) (w.alloc (.map #[] 0)):=by
 unfold execOp;simp only[ho];rfl
end
theorem Xe {P:Program}{ops:Array Oper}{rest:List Oper}{o:Oper}{a:Act}{w:World}{Q:Exit->Act->World->Prop}(hw:Region.wanted o (yielded ops a.tmps)=true)(hd:o.dst=none)(w2:World)(hr:(execOp a.eval o).run P w=.ok .skip w2)(k:wpList P ops Q rest a w2):wpList P ops Q (o::rest) a w:=by
 apply wpList_step;intro K hK;rw[if_pos hw,Oper.wp,hr];refine hK _ _ ?_;rw[hd];exact k
theorem Yl {α β:Type}(f:α->β)(g:α->α)(g':β->β)(h:∀ x,f (g x)=g' (f x)):∀ (l:List α) (i:Nat),(l.modify i g).map f=(l.map f).modify i g'
 | [],i=>by cases i <;> rfl
 | x::r,0=>by simp[List.modify_cons,h]
 | x::r,i+1=>by simp[List.modify_cons,Yl f g g' h r i]
theorem WJ {α:Type}(l:List α)(i:Nat)(x:α)(g:α->α)(h:l[i]?=some x):l.modify i g=l.set i (g x):=by
 apply List.ext_getElem?;intro j;rw[List.getElem?_modify,List.getElem?_set];by_cases hj:i=j
 ·subst hj;obtain⟨hl,hv⟩:=List.getElem?_eq_some_iff.1 h;simp[hl,hv]
 ·simp[hj]
def Ya (f:Int->Option Value)(x:Int)(v:Option Value):Int->Option Value:=fun y=>if y=x then v else f y
def Mi (w:World)(B:Nat)(L:List (Int×Value)):Prop:=
 ∃ es clock,w.heap[B]?=some (.map es clock)/\es.toList.map (fun e=>(e.key,e.val))=L.map (fun x=>(Value.int .i64 x.1,x.2))
def Zx (x:Int):List (Int×Value)->Nat->Option (Nat×Value)
 | [],_=>none
 | p::r,i=>if p.1=x then some (i,p.2) else Zx x r (i+1)
theorem Zl {x:Int}:∀ {L:List (Int×Value)} {i j:Nat} {v:Value},Zx x L i=some (j,v)->∃ k,j=i+k/\k<L.length/\L[k]?=some (x,v)
 | [],i,j,v,h=>by cases h
 | p::r,i,j,v,h=>by
  unfold Zx at h;by_cases hp:p.1=x
  ·rw[if_pos hp] at h;simp only[Option.some.injEq,Prod.mk.injEq] at h;exact⟨0,by omega,by simp,by simp[<- hp,<- h.2]⟩
  ·rw[if_neg hp] at h;obtain⟨k,h1,h2,h3⟩:=Zl h;exact⟨k+1,by omega,by simpa using h2,by simpa using h3⟩
theorem Za {x:Int}:∀ {L:List (Int×Value)} {i:Nat},Zx x L i=none↔∀ p∈L,p.1≠x
 | [],i=>by simp[Zx]
 | p::r,i=>by
  unfold Zx;by_cases hp:p.1=x
  ·simp[hp]
  ·rw[if_neg hp,Za];simp[hp]
def Wi (L:List (Int×Value))(x:Int):Option Value:=(Zx x L 0).map (·.2)
theorem XU (x:Int):∀ (L:List (Int×Value)) (i j:Nat),(Zx x L i).map (·.2)=(Zx x L j).map (·.2)
 | [],i,j=>rfl
 | p::r,i,j=>by
  unfold Zx
  split
  ·rfl
  ·exact XU x r _ _
theorem ZG (p:Int×Value)(r:List (Int×Value))(x:Int):Wi (p::r) x=if p.1=x then some p.2 else Wi r x:=by
 unfold Wi;rw[Zx]
 split
 ·rfl
 ·exact XU x r _ _
theorem VZ (x:Int)(p:Int×Value):∀ (L:List (Int×Value)),(∀ q∈L,q.1≠p.1)->Wi (L++[p]) x=if x=p.1 then some p.2 else Wi L x
 | [],_=>by
  rw[List.nil_append,ZG];by_cases h:p.1=x
  ·rw[if_pos h,if_pos h.symm]
  ·rw[if_neg h,if_neg (fun e=>h e.symm)]
 | q::r,hq=>by
  have h1:=hq q (by simp);rw[List.cons_append,ZG,VZ x p r (fun z hz=>hq z (by simp[hz])),ZG];by_cases h:q.1=x
  ·rw[if_pos h,if_neg (fun e=>h1 (h.trans e)),if_pos h]
  ·rw[if_neg h,if_neg h]
theorem VY (x k:Int)(v u:Value):∀ (L:List (Int×Value)) (j:Nat),L[j]?=some (k,u)->(L.map (·.1)).Nodup->Wi (L.set j (k,v)) x=if x=k then some v else Wi L x
 | [],j,h,_=>by simp at h
 | p::r,0,h,hn=>by
  simp only[List.getElem?_cons_zero,Option.some.injEq] at h;subst h;rw[List.set_cons_zero,ZG,ZG];by_cases h:k=x
  ·rw[if_pos h,if_pos h.symm]
  ·rw[if_neg h,if_neg (fun e=>h e.symm),if_neg h]
 | p::r,j+1,h,hn=>by
  rw[List.getElem?_cons_succ] at h;rw[List.map_cons,List.nodup_cons] at hn;have hpk:p.1≠k:=fun e=>hn.1 (by rw[e]; exact List.mem_map.2 ⟨(k,u),List.mem_of_getElem? h,rfl⟩);rw[List.set_cons_succ,ZG,VY x k v u r j h hn.2,ZG];by_cases h1:p.1=x
  ·rw[if_pos h1,if_neg (fun e=>hpk (h1.trans e)),if_pos h1]
  ·rw[if_neg h1,if_neg h1]
theorem Xq {L:List (Int×Value)}{x:Int}(h:∀ p∈L,p.1≠x):Wi L x=none:=by
 unfold Wi;rw[Za.2 h];rfl
theorem VX (x k:Int)(u:Value):∀ (L:List (Int×Value)) (j:Nat),L[j]?=some (k,u)->(L.map (·.1)).Nodup->Wi (L.eraseIdx j) x=if x=k then none else Wi L x
 | [],j,h,_=>by simp at h
 | p::r,0,h,hn=>by
  simp only[List.getElem?_cons_zero,Option.some.injEq] at h;subst h;rw[List.map_cons,List.nodup_cons] at hn;rw[List.eraseIdx_cons_zero,ZG];by_cases h:k=x
  ·rw[if_pos h.symm];exact Xq fun q hq e=>hn.1 (List.mem_map.2 ⟨q,hq,e.trans h.symm⟩)
  ·rw[if_neg (fun e=>h e.symm),if_neg h]
 | p::r,j+1,h,hn=>by
  rw[List.getElem?_cons_succ] at h;rw[List.map_cons,List.nodup_cons] at hn;have hpk:p.1≠k:=fun e=>hn.1 (by rw[e]; exact List.mem_map.2 ⟨(k,u),List.mem_of_getElem? h,rfl⟩);rw[List.eraseIdx_cons_succ,ZG,VX x k u r j h hn.2,ZG];by_cases h1:p.1=x
  ·rw[if_pos h1,if_neg (fun e=>hpk (h1.trans e)),if_pos h1]
  ·rw[if_neg h1,if_neg h1]
theorem Zt (w:World)(b:Bool)(x:Int):(Instr.checkKey b 10000 3 (Z9 x)).run Tryz.prog w=.ok () w:=by
 rw[show(10000:Nat)=9999+1 from rfl,Instr.checkKey];simp[run_underlying Tryz.underlying3]
theorem Xp (x:Int):∀ (es:List MapEntry) (L:List (Int×Value)) (i:Nat),es.map (fun e=>(e.key,e.val))=L.map (fun x=>(Value.int .i64 x.1,x.2)) ->
  Instr.findNow (TypeDesc.int .i64) (Z9 x) es i=some ((Zx x L i).map fun p=>(p.1,p.2))
 | [],[],i,_=>by simp[Instr.findNow,Zx]
 | [],_::_,i,h=>by simp at h
 | _::_,[],i,h=>by simp at h
 | e::es,p::L,i,h=>by
  simp only[List.map_cons,List.cons.injEq,Prod.mk.injEq] at h;obtain⟨⟨h1,h2⟩,h3⟩:=h;have ih:=Xp x es L (i+1) h3;unfold Zx;rw[Instr.findNow,h1];simp only[Instr.sameNow];by_cases hx:p.1=x
  ·have:(x == p.1)=true:=(by simp[hx]);simp[this,hx,h2]
  ·have:(x == p.1)=false:=(by simpa using fun h=>hx h.symm);simp[this,hx,ih]
theorem YH (w:World)(x:Int)(es:List MapEntry)(L:List (Int×Value))(h:es.map (fun e=>(e.key,e.val))=L.map (fun x=>(Value.int .i64 x.1,x.2))) :
  (Instr.findKey 3 (Z9 x) es).run Tryz.prog w=.ok ((Zx x L 0).map fun p=>(p.1,p.2)) w:=by
 simp[Instr.findKey,run_underlying Tryz.underlying3,Xp x es L 0 h]
def JF (o:Option Value)(b:Bool):Value:=
 match o with
 | some v=>if b then .tuple #[v,ZT] else v
 | none=>if b then .tuple #[.agg #[Z9 0,Z9 0],ZW] else .agg #[Z9 0,Z9 0]
theorem Ti {w:World}{B:Nat}{L:List (Int×Value)}(h:Mi w B L)(x:Int)(b:Bool):(Instr.lookup 134 (.map (some B)) (Z9 x) b).run Tryz.prog w=.ok (JF (Wi L x) b) w:=by
 obtain⟨es,c,hb,he⟩:=h;have hu:(Go.underlying 134).run Tryz.prog w=.ok (.map 3 170) w:=run_underlying (by kernel_rfl) w;have hz:(zeroValue 170).run Tryz.prog w=.ok (.agg #[Z9 0,Z9 0]) w:=by kernel_rfl
 have hr:=YH w x es.toList L he;unfold JF Wi;cases hf:Zx x L 0 with
 | none=>
  rw[hf] at hr;cases b <;> simp[Instr.lookup,hu,MapKept.run_getObj_map hb,Zt w _ x,hr,hz,Result.andThen]
 | some p=>
  rw[hf] at hr;cases b <;> simp[Instr.lookup,hu,MapKept.run_getObj_map hb,Zt w _ x,hr,hz,Result.andThen]
theorem Qj {w:World}{B:Nat}{L:List (Int×Value)}(h:Mi w B L)(x:Int)(v:Value)(hn:Zx x L 0=none) :
  ∃ w',(Instr.mapUpdate 134 (.map (some B)) (Z9 x) v).run Tryz.prog w=.ok () w'/\Mi w' B (L++[(x,v)])/\w'.heap.size=w.heap.size/\w.grownBy w' (some B):=by
 obtain⟨es,c,hb,he⟩:=h;have hu:(Go.underlying 134).run Tryz.prog w=.ok (.map 3 170) w:=run_underlying (by kernel_rfl) w;have hr:=YH w x es.toList L he;rw[hn] at hr;have hlt:B<w.heap.size:=(Array.getElem?_eq_some_iff.1 hb).1;refine⟨{ w with heap:=w.heap.setIfInBounds B (.map (es.push { key:=Z9 x,val:=v,born:=c }) (c+1)) },
  by simp[Instr.mapUpdate,hu,MapKept.run_getObj_map hb,Zt w _ x,hr,MapKept.run_setObj_map _ hb,Result.andThen],⟨_,_,by simp[hlt]; exact⟨rfl,rfl⟩,by simp[he]⟩,by simp,rfl,rfl,rfl,by simp,fun i _ hi=>?_⟩
 have hne:B≠i:=fun e=>hi (by rw[e]);simp[Array.getElem?_setIfInBounds_ne hne]
theorem Qi {w:World}{B:Nat}{L:List (Int×Value)}(h:Mi w B L)(x:Int)(v u:Value)(j:Nat)(hn:Zx x L 0=some (j,u)) :
  ∃ w',(Instr.mapUpdate 134 (.map (some B)) (Z9 x) v).run Tryz.prog w=.ok () w'/\Mi w' B (L.set j (x,v))/\w'.heap.size=w.heap.size/\w.grownBy w' (some B):=by
 obtain⟨es,c,hb,he⟩:=h;have hu:(Go.underlying 134).run Tryz.prog w=.ok (.map 3 170) w:=run_underlying (by kernel_rfl) w;have hr:=YH w x es.toList L he;rw[hn] at hr;have hlt:B<w.heap.size:=(Array.getElem?_eq_some_iff.1 hb).1;obtain⟨k,hj,hkl,hg⟩:=Zl hn;obtain rfl:j=k:=by omega
 have hlen:es.size=L.length:=by
  have:=congrArg List.length he;simpa using this
 have hes:j<es.size:=by omega
 have hkey:es[j].key=Z9 x:=by
  have h1:=congrArg (fun l=>l[j]?) he;simp only[List.getElem?_map,hg,Array.getElem?_toList,Array.getElem?_eq_getElem hes,Option.map_some,Option.some.injEq,Prod.mk.injEq] at h1;exact h1.1
 have hsb:Instr.sameBits 10000 (Z9 x) (Z9 x)=true:=by
  rw[show(10000:Nat)=9999+1 from rfl];simp[Instr.sameBits]
 have hst:(Instr.keyThatStays (((es[j]?).map (·.key)).getD (Z9 x)) (Z9 x)).run Tryz.prog w=.ok (Z9 x) w:=by
  simp only[Array.getElem?_eq_getElem hes,Option.map_some,Option.getD_some,hkey,Instr.keyThatStays,hsb,if_true];rfl
 refine⟨{ w with heap:=w.heap.setIfInBounds B (.map (es.modify j fun e=>{ e with key:=Z9 x,val:=v }) c) },
  by simp only[Instr.mapUpdate,Sem.run_bind,hu,MapKept.run_getObj_map hb,Zt w _ x,hr,Option.map_some,hst,MapKept.run_setObj_map _ hb,Result.andThen],⟨_,_,by simp[hlt]; exact⟨rfl,rfl⟩,?_⟩,by simp,rfl,rfl,rfl,by simp,fun i _ hi=>?_⟩
 ·rw[Array.toList_modify,Yl (fun e:MapEntry=>(e.key,e.val)) _ (fun _=>(Value.int .i64 x,v)) (fun _=>rfl),he,
   WJ _ j (Value.int .i64 x,u) _ (by simp[hg]),List.map_set]
 ·have hne:B≠i:=fun e=>hi (by rw[e]);simp[Array.getElem?_setIfInBounds_ne hne]
theorem Zg {α β:Type}(f:α->β):∀ (l:List α) (i:Nat),(l.eraseIdx i).map f=(l.map f).eraseIdx i
 | [],i=>by simp
 | x::r,0=>by simp
 | x::r,i+1=>by simp[Zg f r i]
theorem Qh {w:World}{B:Nat}{L:List (Int×Value)}(h:Mi w B L)(x:Int)(ty:TypeId) :
  ∃ w',(Builtin.delete_ #[134,3] ty #[.map (some B),Z9 x]).run Tryz.prog w=.ok (.tuple #[]) w'/\Mi w' B (match Zx x L 0 with | some (j,_)=>L.eraseIdx j | none=>L)/\w'.heap.size=w.heap.size/\w.grownBy w' (some B):=by
 obtain⟨es,c,hb,he⟩:=h;have hu:(Go.underlying 134).run Tryz.prog w=.ok (.map 3 170) w:=run_underlying (by kernel_rfl) w;have hr:=YH w x es.toList L he;have hlt:B<w.heap.size:=(Array.getElem?_eq_some_iff.1 hb).1;have hg:∀ o:Obj,w.grownBy { w with heap:=w.heap.setIfInBounds B o } (some B):=fun o=>⟨rfl,rfl,rfl,by simp,fun i _ hi=>by
  have hne:B≠i:=fun e=>hi (by rw[e]);simp[Array.getElem?_setIfInBounds_ne hne]⟩
 cases hf:Zx x L 0 with
 | none=>
  rw[hf] at hr;exact⟨{ w with heap:=w.heap.setIfInBounds B (.map es c) },by simp[Builtin.delete_,hu,MapKept.run_getObj_map hb,Zt w _ x,hr,MapKept.run_setObj_map _ hb,Result.andThen],⟨es,c,by simp[hlt],he⟩,by simp,hg _⟩
 | some p=>
  rw[hf] at hr;obtain⟨k,hj,hkl,-⟩:=Zl (show Zx x L 0=some (p.1,p.2) from hf);have hlen:es.size=L.length:=by
   have:=congrArg List.length he;simpa using this
  refine⟨{ w with heap:=w.heap.setIfInBounds B (.map (es.eraseIdxIfInBounds p.1) c) },by simp[Builtin.delete_,hu,MapKept.run_getObj_map hb,Zt w _ x,hr,MapKept.run_setObj_map _ hb,Result.andThen],⟨es.eraseIdxIfInBounds p.1,c,by simp[hlt],?_⟩,by simp,hg _⟩;have hin:p.1<es.size:=by omega
  show(es.eraseIdxIfInBounds p.1).toList.map _=(L.eraseIdx p.1).map _;rw[Array.eraseIdxIfInBounds,dif_pos hin,Array.toList_eraseIdx,Zg,he,Zg]
def Mf (w:World)(B:Nat)(f:Int->Option Value):Prop:=∃ L,Mi w B L/\(L.map (·.1)).Nodup/\∀ x,Wi L x=f x
theorem Mf.lt {w:World}{B:Nat}{f:Int->Option Value}(h:Mf w B f):B<w.heap.size:=by
 obtain⟨L,⟨es,c,h1,-⟩,-⟩:=h;exact(Array.getElem?_eq_some_iff.1 h1).1
theorem Mf.same {w w':World}{B:Nat}{f:Int->Option Value}(h:Mf w B f)(hs:w'.heap[B]?=w.heap[B]?):Mf w' B f:=by
 obtain⟨L,⟨es,c,h1,h2⟩,h3⟩:=h;exact⟨L,⟨es,c,hs.trans h1,h2⟩,h3⟩
theorem Mf.new (w:World):Mf (w.alloc (.map #[] 0)) w.heap.size fun _=>none:=⟨[],⟨#[],0,heap_alloc_last w _,rfl⟩,by simp,fun _=>rfl⟩
theorem Mf.look {w:World}{B:Nat}{f:Int->Option Value}(h:Mf w B f)(x:Int)(b:Bool):(Instr.lookup 134 (.map (some B)) (Z9 x) b).run Tryz.prog w=.ok (JF (f x) b) w:=by
 obtain⟨L,h1,-,h3⟩:=h;rw[<- h3 x];exact Ti h1 x b
theorem Mf.put {w:World}{B:Nat}{f:Int->Option Value}(h:Mf w B f)(x:Int)(v:Value) :
  ∃ w',(Instr.mapUpdate 134 (.map (some B)) (Z9 x) v).run Tryz.prog w=.ok () w'/\Mf w' B (Ya f x (some v))/\w'.heap.size=w.heap.size/\w.grownBy w' (some B):=by
 obtain⟨L,h1,h2,h3⟩:=h;cases hf:Zx x L 0 with
 | none=>
  have hno:=Za.1 hf;obtain⟨w',hr,hm,hz,hg⟩:=Qj h1 x v hf;refine⟨w',hr,⟨_,hm,?_,fun y=>?_⟩,hz,hg⟩
  ·rw[List.map_append,List.nodup_append];refine⟨h2,by simp,fun a ha b hb e=>?_⟩;obtain⟨q,hq,rfl⟩:=List.mem_map.1 ha;simp only[List.map_cons,List.map_nil,List.mem_singleton] at hb;exact hno q hq (e.trans hb)
  ·rw[VZ y (x,v) L hno,h3 y];rfl
 | some p=>
  obtain⟨w',hr,hm,hz,hg⟩:=Qi h1 x v p.2 p.1 hf;obtain⟨k,hj,hkl,hgt⟩:=Zl (show Zx x L 0=some (p.1,p.2) from hf);have hk:p.1=k:=by omega
  rw[<- hk] at hgt;refine⟨w',hr,⟨_,hm,?_,fun y=>?_⟩,hz,hg⟩
  ·have e:(L.set p.1 (x,v)).map (·.1)=L.map (·.1):=by
    rw[List.map_set];apply List.ext_getElem?;intro i;rw[List.getElem?_set];by_cases hi:p.1=i
    ·subst hi;simp[hgt];omega
    ·rw[if_neg hi]
   rw[e];exact h2
  ·rw[VY y x v p.2 L p.1 hgt h2,h3 y];rfl
theorem Mf.del {w:World}{B:Nat}{f:Int->Option Value}(h:Mf w B f)(x:Int)(ty:TypeId) :
  ∃ w',(Builtin.delete_ #[134,3] ty #[.map (some B),Z9 x]).run Tryz.prog w=.ok (.tuple #[]) w'/\Mf w' B (Ya f x none)/\w'.heap.size=w.heap.size/\w.grownBy w' (some B):=by
 obtain⟨L,h1,h2,h3⟩:=h;obtain⟨w',hr,hm,hz,hg⟩:=Qh h1 x ty;refine⟨w',hr,?_,hz,hg⟩;cases hf:Zx x L 0 with
 | none=>
  rw[hf] at hm;refine⟨L,hm,h2,fun y=>?_⟩;rw[h3 y];unfold Ya;by_cases e:y=x
  ·rw[if_pos e,e,<- h3 x];exact Xq (Za.1 hf)
  ·rw[if_neg e]
 | some p=>
  rw[hf] at hm;obtain⟨k,hj,hkl,hgt⟩:=Zl (show Zx x L 0=some (p.1,p.2) from hf);have hk:p.1=k:=by omega
  rw[<- hk] at hgt;refine⟨_,hm,?_,fun y=>?_⟩
  ·rw[Zg];exact h2.sublist (List.eraseIdx_sublist _ _)
  ·rw[VX y x p.2 L p.1 hgt h2,h3 y];rfl
theorem Mf.map {w:World}{B:Nat}{f:Int->Option Value}(h:Mf w B f):∃ es c,w.heap[B]?=some (.map es c):=by
 obtain⟨L,⟨es,c,h1,-⟩,-⟩:=h;exact⟨es,c,h1⟩
def OL (p:Int×Int):Value:=.agg #[Z9 p.1,Z9 p.2]
def BU (m:List Wt):Int->Option Value:=fun k=>(U6 m k).map OL
theorem yV {m m2:List Wt}{z:Wt}(h:EZ m m2 z):Ya (BU m) z.1 (some (OL z.2))=BU m2:=by
 funext k
 unfold Ya BU;rw[h.get k];by_cases hk:k=z.1
 ·rw[if_pos hk,if_pos hk]; rfl
 ·rw[if_neg hk,if_neg hk]
def YD (x y:Int):Int:=if x<y then -1 else if y<x then 1 else 0
def cp2 (a b:Eo):Int:=if YD a.1 b.1=0 then YD a.2 b.2 else YD a.1 b.1
theorem IB {x y:Int}:YD x y<0↔x<y:=by
 unfold YD
 split
 ·omega
 ·split <;> omega
theorem WI {x y:Int}:YD x y=0↔x=y:=by
 unfold YD
 split
 ·omega
 ·split <;> omega
theorem rH (a b:Eo):decide (cp2 a b<0)=Uo a b:=by
 unfold cp2;rw[Bool.eq_iff_iff,decide_eq_true_iff,UL];by_cases h:YD a.1 b.1=0
 ·rw[if_pos h,IB];rw[WI] at h;omega
 ·rw[if_neg h,IB];rw[WI] at h;omega
def Tf:List Int->Int
 | []=>0
 | x::r=>if x=0 then Tf r else x
theorem JD (L:List Int)(k:Nat)(h:k<L.length):Tf (L.drop k)=if L.getD k 0=0 then Tf (L.drop (k+1)) else L.getD k 0:=by
 rw[List.drop_eq_getElem_cons h,getD_lt L k 0 h];rfl
theorem aO (a b:Eo):Tf [YD a.1 b.1,YD a.2 b.2]=cp2 a b:=by
 unfold cp2 Tf Tf Tf;by_cases h:YD a.1 b.1=0
 ·rw[if_pos h,if_pos h];by_cases h2:YD a.2 b.2=0
  ·rw[if_pos h2,h2]
  ·rw[if_neg h2]
 ·rw[if_neg h,if_neg h]
def Yv (A:List Eo)(j:Nat):Eo:=A.getD j Wn
def Xk (A:List Eo)(q:Eo):Bool:=decide (Zw A q<A.length/\cp2 (Yv A (Zw A q)) q=0)
def KY (A:List Eo):Prop:=∀ i j,i<j->j<A.length->Uo (Yv A i) (Yv A j)=true
theorem y7 {A:List Eo}(h:Vt A):KY A:=fun i j hij hj=>by
 have:=List.pairwise_iff_getElem.1 h i j (by omega) hj hij;unfold Yv;rwa [getD_lt A i Wn (by omega),getD_lt A j Wn hj]
theorem UZ {w:World}{a:Option Addr}{L:List Eo}(h:Cs w a (encs L)){i:Nat}(hi:i<L.length):∃ b off,a=some ⟨b,off,none⟩/\b<w.heap.size/\w.rangeAt b (off+i*2) (YN (Yv L i)):=EY h hi
theorem Q8 {A:List Eo}{j:Nat}(h:j<A.length):Yv A j∈A:=by unfold Yv; rw[getD_lt A j Wn h]; exact List.getElem_mem h
theorem Dv {A:List Eo}{i:Nat}(hi:i<=A.length){q:Eo}(h1:∀ t,t<i->Uo (Yv A t) q=true)(h2:∀ t,i<=t->t<A.length->Uo (Yv A t) q=false):i=Zw A q:=by
 have hA:∀ e∈A.take i,Uo e q=true:=fun e he=>by
  obtain⟨t,ht,rfl⟩:=List.mem_take_iff_getElem.1 he;have:=h1 t (by omega);unfold Yv at this;rwa [getD_lt A t Wn (by omega)] at this
 have hB:∀ e∈A.drop i,Uo e q=false:=fun e he=>by
  obtain⟨t,ht,rfl⟩:=List.mem_drop_iff_getElem.1 he;have h3:=h2 (i+t) (by omega) (by omega);unfold Yv at h3;rwa [getD_lt A (i+t) Wn (by omega)] at h3
 conv=>rhs; rw[<- List.take_append_drop i A]
 rw[Qx hA hB,List.length_take]; omega
theorem Dk (x y:Eo)(w:World):Below w.heap.size w ((w.alloc (.cells (ZQ x) 174)).alloc (.cells (ZQ y) 174))/\Bx ((w.alloc (.cells (ZQ x) 174)).alloc (.cells (ZQ y) 174)) w.heap.size (ZQ x) 174/\Bx ((w.alloc (.cells (ZQ x) 174)).alloc (.cells (ZQ y) 174)) (w.heap.size+1) (ZQ y) 174:=by
 have hs:(w.alloc (.cells (ZQ x) 174)).heap.size=w.heap.size+1:=by simp
 refine⟨((Below.refl _ w).alloc (Nat.le_refl _) _).alloc (by rw[hs]; omega) _,?_,?_⟩
 ·have h0:Bx (w.alloc (.cells (ZQ x) 174)) w.heap.size (ZQ x) 174:=heap_alloc_last w _;exact h0.below h0.lt ((Below.refl _ _).alloc (Nat.le_refl _) _)
 ·have h1:=heap_alloc_last (w.alloc (.cells (ZQ x) 174)) (.cells (ZQ y) 174);rw[hs] at h1;exact h1
theorem yT (a b:Int)(w:World):(Instr.buildSlice 22 2 #[(0,Z9 a),(1,Z9 b)]).run Tryz.prog w=.ok (.slice (some ⟨w.heap.size,0,none⟩) 2 2) (w.alloc (.cells (ZM [a,b]).toArray 3)):=by
 obtain⟨i0,hi,hz0,hz1,hz2⟩:=info_parts Ut;refine run_buildSlice w 22 3 2 _ (ZM [a,b]).toArray i0 _ Tryz.underlying22 hi hz0 (by rw[hz1]; omega) (by rw[hz1]; omega) ?_;rw[hz1];kernel_rfl
theorem Nk {ρ:Operand->Value}{o:Oper}{x:Operand}(ho:o.op=.convert 3 185 x)(a:Nat)(h:a<=9223372036854775807)(hx:ρ x=Z9 a)(w:World):(execOp ρ o).run Tryz.prog w=.ok (.value (ZY a)) w:=by
 have e:IntKind.u64.wrap (a:Int)=a:=by rw[IntKind.wrap_u64]; omega
 unfold execOp;simp only[ho,hx];go_simp
theorem Nj {ρ:Operand->Value}{o:Oper}{x:Operand}(ho:o.op=.convert 185 3 x)(a:Nat)(h:a<=9223372036854775807)(hx:ρ x=ZY a)(w:World):(execOp ρ o).run Tryz.prog w=.ok (.value (Z9 a)) w:=by
 have e:IntKind.i64.wrap (a:Int)=a:=by rw[IntKind.wrap_i64]; omega
 unfold execOp;simp only[ho,hx];go_simp
theorem Jy {ρ:Operand->Value}{o:Oper}{x y:Operand}(ho:o.op=.binOp .shr 185 x y 185)(a:Nat)(h:a<=9223372036854775807)(hx:ρ x=ZY a)(hy:ρ y=ZY 1)(w:World):(execOp ρ o).run Tryz.prog w=.ok (.value (ZY (a / 2:Nat))) w:=by
 unfold execOp;simp only[ho,hx,hy];go_simp
theorem KX (x:Int)(w:World):Calls Tryz.prog 143 #[Z9 x] w fun e w'=>e=.returned ZW/\w=w':=by
 go_enter Tryz.func143,Tryz.ntmps143;go_upto_region 1 with fail;refine wl<|ZA (Z9 x) (Z9 x)<|YF (Qs rfl x x (decide_eq_false (fun h=>h rfl)))<|ZN ZW<|wn ?_;simp only[pu];go_wp2_with fail;go_ret;exact⟨rfl,rfl⟩
theorem IG (a b:Int)(w:World):Calls Tryz.prog 107 #[Z9 a,Z9 b] w fun e w'=>e=.returned (Z9 (YD a b))/\w=w':=by
 have C1:=KX a w;have C2:=KX b w;obtain⟨q,hq⟩:=ZR (YD a b);have HQ:Hid ((a<b->q=-1)/\(¬ a<b->b<a->q=1)/\(¬ a<b->¬ b<a->q=0)):=Z8 ⟨fun h=>by rw[<- hq]; exact if_pos h,fun h h2=>by rw[<- hq]; unfold YD; rw[if_neg h,if_pos h2],fun h h2=>by rw[<- hq]; unfold YD; rw[if_neg h,if_neg h2]⟩;rw[hq];clear hq;go_enter Tryz.func107,Tryz.ntmps107;go_upto_region 1 with fail;refine wl<|ZN (Z9 a)<|Yd ZW (fun w'=>w=w') (C1) (fun V9 X9=>?_);subst X9;refine ZN ZW<|wn ?_;simp only[pu];go_upto_region 2 with fail;refine wl<|ZN (Z9 b)<|Yd ZW (fun w'=>w=w') (C2) (fun V9 X9=>?_);subst X9;refine ZN ZW<|wn ?_;simp only[pu];clear C1 C2;go_upto_region 3 with fail;refine wl<|ZN ZW<|wn ?_;simp only[pu];go_upto_region 7 with fail;refine wl<|ZN ZW<|wn ?_;simp only[pu];by_cases h1:a<b
 ·obtain rfl:=HQ.out.1 h1;go_upto_region 9 with fail;refine wl<|ZA (Z9 a) (Z9 b)<|YF (Zv rfl a b (decide_eq_true h1))<|wn ?_;simp only[pu];go_upto_region 10 with fail;refine wl<|ZN (Z9 (-1))<|wn ?_;simp only[pu];go_wp2_with fail;go_ret;exact⟨rfl,rfl⟩
 ·go_upto_region 9 with fail;refine wl<|ZA (Z9 a) (Z9 b)<|YF (Zv rfl a b (decide_eq_false h1))<|wn ?_;simp only[pu];by_cases h2:b<a
  ·obtain rfl:=HQ.out.2.1 h1 h2;go_upto_region 11 with fail;refine wl<|ZA (Z9 a) (Z9 b)<|YF (VI rfl a b (decide_eq_true h2))<|wn ?_;simp only[pu];go_upto_region 12 with fail;refine wl<|ZN (Z9 1)<|wn ?_;simp only[pu];go_wp2_with fail;go_ret;exact⟨rfl,rfl⟩
  ·obtain rfl:=HQ.out.2.2 h1 h2;go_upto_region 11 with fail;refine wl<|ZA (Z9 a) (Z9 b)<|YF (VI rfl a b (decide_eq_false h2))<|wn ?_;simp only[pu];go_upto_region 13 with fail;refine wl<|ZN (Z9 0)<|wn ?_;simp only[pu];go_wp2_with fail;go_ret;exact⟨rfl,rfl⟩
theorem JE (L:List Int)(gb c:Nat)(w:World)(hl:L.length<=1000)(hX:Cs w (some ⟨gb,0,none⟩) (ZM L)):Calls Tryz.prog 105 #[.slice (some ⟨gb,0,none⟩) L.length c] w fun e w'=>e=.returned (Z9 (Tf L))/\w=w':=by
 have HR:=Z8 (show Tf (L.drop 0)=Tf L from rfl);have HC:=Z8 hX;have HA:Hid (∀ i,i<L.length->Tf (L.drop i)=if L.getD i 0=0 then Tf (L.drop (i+1)) else L.getD i 0):=Z8 fun i hi=>JD L i hi;have HD:Hid (Tf (L.drop L.length)=0):=Z8 (by rw[List.drop_length]; rfl);generalize Tf L=R at *
 obtain⟨n,hn⟩:=ZR L.length;have HN:=Z8 hn;rw[hn] at hl HA HD ⊢;clear hn hX;go_enter Tryz.func105,Tryz.ntmps105;go_upto_region 1 with fail;refine wl<|ZN (Z9 0)<|wn ?_;simp only[pu];go_upto_region 2 with fail;refine wl<|YU (.slice (some ⟨gb,0,none⟩) n c) (Z9 n) (Z9 0)<|wn ?_;simp only[pu];go_wp2_with fail;go_loopg [8] n (fun gg s8 wx=>∃ i:Nat,s8=Z9 i/\i<=n/\Hid (Tf (L.drop i)=R)/\w=wx/\n-i=gg)
 case atStart=>exact⟨0,rfl,by omega,HR,rfl,rfl⟩
 case round=>
  obtain⟨i,rfl,hi,hR,rfl,hg⟩:=hrel;have PN:=Z8 hg;clear hg;by_cases hlt:i<n
  ·obtain⟨b,off,e2,hbb,hrx⟩:=Uk HC.out (k:=i) (by rw[HN.out]; exact hlt);simp only[Option.some.injEq,Addr.mk.injEq,and_true] at e2;obtain⟨rfl,rfl⟩:=e2;have hR1:=hR.out;rw[HA.out i hlt] at hR1;generalize L.getD i 0=x at *
   have HR1:=Z8 hR1;have HX:=Z8 hrx;clear hR1 hR hrx;go_upto_region 3 with fail;refine wl<|YF (Zv rfl (i) (n) dT)<|wn ?_;simp only[pu];go_upto_region 4 with fail;refine wl<|YT (Z7 gb (0+i)) (XQ gb 0 n c i hlt _ _ _ rfl (by kernel_rfl) (by kernel_rfl))<|Zq rfl ⟨gb,0+i,none⟩ (Z9 x) (Zc HX.out (by kernel_rfl))<|ZN (Z9 x)<|wn ?_;simp only[pu];by_cases hx0:x=0
   ·have hR2:=HR1.out;rw[if_pos hx0] at hR2;have HR2:=Z8 hR2;clear hR2 HR1 HX;go_upto_region 5 with fail;refine wl<|ZA (Z9 x) (Z9 0)<|YF (Qs rfl x 0 (decide_eq_false (fun h=>h hx0)))<|wn ?_;simp only[pu];clear hx0;go_upto_region 7 with fail;refine wl<|YT (Z9 (i+1:Nat)) (add_one rfl i (by omega) (by kernel_rfl) _)<|ZN (Z9 (i+1:Nat))<|wn ?_;simp only[pu];go_wp2_with fail;go_roundg (n-(i+1))
    case measure=>have:=PN.out; omega
    case rel=>exact⟨i+1,rfl,by omega,HR2,rfl,rfl⟩
   ·have hR2:=HR1.out;rw[if_neg hx0] at hR2;have HR2:=Z8 hR2;clear hR2 HR1 HX;go_upto_region 5 with fail;refine wl<|ZA (Z9 x) (Z9 0)<|YF (Qs rfl x 0 (decide_eq_true hx0))<|wn ?_;simp only[pu];have HX0:=Z8 hx0;clear hx0;go_upto_region 6 with fail;refine wl<|ZA (Z9 x) (Z9 x)<|wn ?_;simp only[pu];go_wp2_with fail;go_ret;exact⟨by rw[HR2.out]; rfl,rfl⟩
  ·obtain rfl:i=n:=(by omega);have hR1:=hR.out;rw[HD.out] at hR1;have HR1:=Z8 hR1;clear hR1 hR;go_upto_region 3 with fail;refine wl<|YF (Zv rfl (i) (i) dF)<|wn ?_;simp only[pu];go_upto_region 8 with fail;refine wl<|ZA (Z9 0) (Z9 0)<|wn ?_;simp only[pu];go_wp2_with fail;go_ret;exact⟨by rw[<- HR1.out]; rfl,rfl⟩
theorem RZ (x y:Eo)(w:World):Calls Tryz.prog 118 #[.agg (ZQ x),.agg (ZQ y)] w fun e w'=>e=.returned (Z9 (cp2 x y))/\Below w.heap.size w w':=by
 have HF:=Z8 (aO x y);generalize cp2 x y=R at *
 obtain⟨hg,h1,h2⟩:=Dk x y w;obtain⟨W,hW⟩:=ZR ((w.alloc (.cells (ZQ x) 174)).alloc (.cells (ZQ y) 174));rw[hW] at hg h1 h2;obtain⟨g0,e0⟩:=ZR w.heap.size;rw[e0] at h1 h2;go_enter Tryz.func118,Tryz.ntmps118;go_upto_region 1 with fail;have HG:=Z8 hg;clear e0 hg hW;refine ZO (C:=fun U=>Below W.heap.size W U) 10 (by kernel_rfl) (by kernel_rfl) ((Below.refl _ W).drew) ?_;simp only[List.take_succ_cons,List.take_zero,List.drop_succ_cons,List.drop_zero];refine gy (Z7 g0 0)<|Zj rfl ⟨g0,0,none⟩ (Z9 x.1) (fun U hU=>(h1.below h1.lt hU).ZL 0)<|gy (Z7 (g0+1) 0) <|
   Zj rfl ⟨g0+1,0,none⟩ (Z9 y.1) (fun U hU=>(h2.below h2.lt hU).ZL 0) ?_
 refine Zz (by kernel_rfl) (some 9) rfl 107 #[Z9 x.1,Z9 y.1] (Z9 (YD x.1 y.1)) (fun U hU=>by kernel_rfl) (fun U hU=>(IG x.1 y.1 U).mono fun e w2 q=>⟨q.1,q.2 ▸ hU⟩) ?_;refine gy (Z7 g0 1)<|Zj rfl ⟨g0,1,none⟩ (Z9 x.2) (fun U hU=>(h1.below h1.lt hU).ZL 1)<|gy (Z7 (g0+1) 1) <|
   Zj rfl ⟨g0+1,1,none⟩ (Z9 y.2) (fun U hU=>(h2.below h2.lt hU).ZL 1) ?_
 refine Zz (by kernel_rfl) (some 14) rfl 107 #[Z9 x.2,Z9 y.2] (Z9 (YD x.2 y.2)) (fun U hU=>by kernel_rfl) (fun U hU=>(IG x.2 y.2 U).mono fun e w2 q=>⟨q.1,q.2 ▸ hU⟩) ?_;simp only[pu];apply wpQuiet_nil;intro V hV;have HV:=Z8 (HG.out.trans (hV.mono HG.out.size));clear hV h1 h2;obtain⟨V2,hV2⟩:=ZR (V.alloc (.cells (ZM [YD x.1 y.1,YD x.2 y.2]).toArray 3));have hbd:=yT (YD x.1 y.1) (YD x.2 y.2) V;have CS:Cs V2 (some ⟨V.heap.size,0,none⟩) (ZM [YD x.1 y.1,YD x.2 y.2]):=Cs.block (by rw[<- hV2]; exact heap_alloc_last V _);have qj:Hid (Below w.heap.size w V2):=Z8 (HV.out.trans (by rw[<- hV2]; exact(Below.refl _ V).alloc HV.out.size _));rw[hV2] at hbd;have CO:=JE [YD x.1 y.1,YD x.2 y.2] V.heap.size 2 V2 (by simp) CS;rw[HF.out] at CO;clear CS hV2 HF HV;refine YM (by kernel_rfl) (some 15) rfl 22 2 #[(0,.tmp 9),(1,.tmp 14)] rfl #[(0,Z9 (YD x.1 y.1)),(1,Z9 (YD x.2 y.2))] (by kernel_rfl) (.slice (some ⟨V.heap.size,0,none⟩) 2 2) _ hbd ?_;refine Yd (Z9 R) (fun w9=>V2=w9) CO (fun w9 h9=>?_);simp only[pu];subst h9;refine ZN (Z9 R)<|wn ?_;simp only[pu];clear CO hbd;go_wp2_with fail;go_ret;exact⟨rfl,qj.out⟩
theorem su (a:Option Addr)(k:Nat)(A:List Eo)(q:Eo)(w:World)(hR0:Cs w a (encs A))(hs:KY A)(hn:A.length<=1000000) :
  Calls Tryz.prog 117 #[.slice a A.length k,.agg (ZQ q),.func (.func 118) #[] #[]] w fun e w'=>e=.returned (.tuple #[Z9 (Zw A q),.bool (Xk A q)])/\Below w.heap.size w w':=by
 have hb0:Below w.heap.size w (w.alloc (.cells (ZQ q) 174)):=(Below.refl _ w).alloc (Nat.le_refl _) _;have hX0:Bx (w.alloc (.cells (ZQ q) 174)) w.heap.size (ZQ q) 174:=heap_alloc_last w _;obtain⟨W,hW⟩:=ZR (w.alloc (.cells (ZQ q) 174));rw[hW] at hb0 hX0;have HA:=Z8 (hR0.below hb0);have HX0:=Z8 hX0;have Cj:=Z8 (fun i=>rH (Yv A i) q);have HS:=Z8 hs;obtain⟨n,hnn⟩:=ZR A.length;have HN:=Z8 hnn;have yh:Hid (n<=1000000):=Z8 (by omega);obtain⟨lL,Du⟩:=ZR (Zw A q);have Cb:Hid (∀ i,i<=n->(∀ t,t<i->Uo (Yv A t) q=true)->(∀ t,i<=t->t<n->Uo (Yv A t) q=false)->i=lL):=Z8 fun i h1 h2 h3=>by
  rw[<- Du];exact Dv (by omega) h2 (fun t h4 h5=>h3 t h4 (by omega))
 have gI:=Z8 hb0;obtain⟨fF,BZ⟩:=ZR (Xk A q);have Gw:Hid (fF=decide (lL<n/\cp2 (Yv A lL) q=0)):=Z8 (by rw[<- BZ,<- Du,<- hnn]; rfl);rw[hnn,Du,BZ];obtain⟨g4,hg4⟩:=ZR w.heap.size;rw[hg4] at HX0;have HG4:=Z8 hg4;clear Du BZ hR0 hs hn hnn hb0 hX0;go_enter Tryz.func117,Tryz.ntmps117;go_upto_region 1 with fail;clear hW hg4;refine wl<|YU (.slice a n k) (Z9 n) (Z9 n)<|wn ?_;simp only[pu];go_upto_region 2 with fail;refine wl<|YU (Z9 n) (Z9 0) (Z9 n)<|wn ?_;simp only[pu];go_wp2_with fail;go_loopg [9,10] n (fun gg s9 s10 wx=>∃ i j:Nat,s9=Z9 i/\s10=Z9 j/\i<=j/\j<=n/\Hid ((∀ t,t<i->Uo (Yv A t) q=true)/\(∀ t,j<=t->t<n->Uo (Yv A t) q=false))/\Hid (Below W.heap.size W wx)/\j-i=gg)
 case atStart=>exact⟨0,n,rfl,rfl,by omega,by omega,Z8 ⟨fun t h=>by omega,fun t h h2=>by omega⟩,Z8 (Below.refl _ _),by omega⟩
 case round=>
  obtain⟨i,j,rfl,rfl,hij,hjn,HO,HB,hg⟩:=hrel;have Ij:=yh.out;by_cases hlt:i<j
  ·go_upto_region 3 with fail;refine wl<|ZA (Z9 i) (Z9 j)<|YF (Zv rfl (i) (j) dT)<|wn ?_;simp only[pu];go_upto_region 4 with fail;refine wl<|ZA (Z9 i) (Z9 j)<|Yb (Z9 (i+j:Nat)) (YK rfl i j (by omega))<|YT (ZY (i+j:Nat)) (Nk rfl (i+j) (by omega) (by kernel_rfl) _) <|
    Yb (ZY ((i+j) / 2:Nat)) (Jy rfl (i+j) (by omega))<|YT (Z9 ((i+j) / 2:Nat)) (Nj rfl ((i+j) / 2) (by omega) (by kernel_rfl) _)<|ZN (Z9 ((i+j) / 2:Nat))<|wn ?_
   simp only[pu];obtain⟨h,hh⟩:=ZR ((i+j) / 2);have HH:Hid (i<=h/\h<j):=Z8 (by omega);have hhn:h<n:=(by have:=HH.out; omega);rw[hh];clear hh;obtain⟨b,off,rfl,-,hrx⟩:=UZ (HA.out.below HB.out) (i:=h) (by rw[HN.out]; exact hhn);have BR:=HX0.out.below HX0.out.lt HB.out;have hl1:=Cj.out h;generalize hy:Yv A h=y at *
   obtain⟨r,hr⟩:=ZR (cp2 y q);have HR:=Z8 hr;rw[hr] at hl1;have HY:=Z8 hy;have HG:=Z8 hg;clear hr hy hg;go_upto_region 5 with fail;by_cases hqq:r<0
   ·rw[decide_eq_true hqq] at hl1;refine ZU (C:=fun U=>Below wr.heap.size wr U) (by kernel_rfl) (by kernel_rfl) ((Below.refl _ wr).drew) ?_;refine gy (.func (.func 118) #[] #[])<|gy (.slice (some ⟨b,off,none⟩) n k)<|gy (Z9 h)<|Yz (Z7 b (off+h*2)) (fun U hU=>Yn b off n k h hhn U _ _ rfl (by kernel_rfl) (by kernel_rfl)) <|
      Zj rfl ⟨b,off+h*2,none⟩ (.agg (ZQ y)) (fun U hU=>ZC (Zu hrx hU))<|Zj rfl ⟨g4,0,none⟩ (.agg (ZQ q)) (fun U hU=>U5 (BR.below BR.lt hU)) ?_
    refine Zz (by kernel_rfl) (some 30) rfl 118 #[.agg (ZQ y),.agg (ZQ q)] (Z9 r) (fun U hU=>by kernel_rfl) (fun U hU=>(RZ y q U).mono fun e w2 z=>⟨by rw[z.1,HR.out],hU.trans (z.2.mono hU.size)⟩) ?_;refine Yz ZT (fun U hU=>Zv rfl r 0 (decide_eq_true hqq) (by kernel_rfl) (by kernel_rfl) U) ?_;simp only[pu];apply wpQuiet_nil;intro V9 X9;have SK:=Z8 (HB.out.trans (X9.mono HB.out.size));clear X9 HB hrx BR hqq;have rZ:Hid ((∀ t,t<h+1->Uo (Yv A t) q=true)/\(∀ t,j<=t->t<n->Uo (Yv A t) q=false)):=Z8 ⟨fun t ht=>(by rcases Nat.lt_or_ge t h with h7 | h7; exact EU (HS.out t h h7 (by rw[HN.out]; exact hhn)) (by rw[HY.out]; exact hl1.symm); have e7:t=h:=(by omega); rw[e7,HY.out]; exact hl1.symm),HO.out.2⟩;go_upto_region 6 with fail;refine wl<|ZN (Z9 h)<|Yb (Z9 (h+1:Nat)) (YK rfl h 1 (by omega))<|ZN (Z9 (h+1:Nat))<|wn ?_;simp only[pu];clear HO hl1;go_wp2_with fail;go_roundg (j-(h+1))
    case measure=>have:=HG.out; have:=HH.out; omega
    case rel=>exact⟨h+1,j,rfl,rfl,by have:=HH.out; omega,hjn,rZ,SK,rfl⟩
   ·rw[decide_eq_false hqq] at hl1;refine ZU (C:=fun U=>Below wr.heap.size wr U) (by kernel_rfl) (by kernel_rfl) ((Below.refl _ wr).drew) ?_;refine gy (.func (.func 118) #[] #[])<|gy (.slice (some ⟨b,off,none⟩) n k)<|gy (Z9 h)<|Yz (Z7 b (off+h*2)) (fun U hU=>Yn b off n k h hhn U _ _ rfl (by kernel_rfl) (by kernel_rfl)) <|
      Zj rfl ⟨b,off+h*2,none⟩ (.agg (ZQ y)) (fun U hU=>ZC (Zu hrx hU))<|Zj rfl ⟨g4,0,none⟩ (.agg (ZQ q)) (fun U hU=>U5 (BR.below BR.lt hU)) ?_
    refine Zz (by kernel_rfl) (some 30) rfl 118 #[.agg (ZQ y),.agg (ZQ q)] (Z9 r) (fun U hU=>by kernel_rfl) (fun U hU=>(RZ y q U).mono fun e w2 z=>⟨by rw[z.1,HR.out],hU.trans (z.2.mono hU.size)⟩) ?_;refine Yz ZW (fun U hU=>Zv rfl r 0 (decide_eq_false hqq) (by kernel_rfl) (by kernel_rfl) U) ?_;simp only[pu];apply wpQuiet_nil;intro V9 X9;have SK:=Z8 (HB.out.trans (X9.mono HB.out.size));clear X9 HB hrx BR hqq;have rZ:Hid ((∀ t,t<i->Uo (Yv A t) q=true)/\(∀ t,h<=t->t<n->Uo (Yv A t) q=false)):=Z8 ⟨HO.out.1,fun t ht htn=>(by have h0:Uo (Yv A h) q=false:=(by rw[HY.out]; exact hl1.symm); rcases Nat.lt_or_ge h t with h7 | h7; have h8:=HS.out h t h7 (by rw[HN.out]; exact htn); by_cases h9:Uo (Yv A t) q=true; rw[EU h8 h9] at h0; cases h0; simpa using h9; have e7:t=h:=(by omega); rw[e7]; exact h0)⟩;go_upto_region 7 with fail;refine wl<|ZA (Z9 h) (Z9 h)<|wn ?_;simp only[pu];clear HO hl1;go_wp2_with fail;go_roundg (h-i)
    case measure=>have:=HG.out; have:=HH.out; omega
    case rel=>exact⟨i,h,rfl,rfl,by have:=HH.out; omega,by have:=HH.out; omega,rZ,SK,rfl⟩
  ·obtain rfl:i=j:=(by omega);have hil:=Cb.out i hjn HO.out.1 HO.out.2;have BX:=Gw.out;rw[<- hil] at BX;clear Gw;subst hil;clear HO Cb hg hij;by_cases hin:i<n
   ·obtain⟨b,off,rfl,-,hrx⟩:=UZ (HA.out.below HB.out) (i:=i) (by rw[HN.out]; exact hin);have BR:=HX0.out.below HX0.out.lt HB.out;generalize Yv A i=y at *
    obtain⟨r,hr⟩:=ZR (cp2 y q);have HR:=Z8 hr;have ht:decide (r=0)=fF:=(by rw[BX,hr,decide_eq_decide]; exact⟨fun h=>⟨hin,h⟩,fun h=>h.2⟩);have HT:=Z8 ht;clear hr ht BX Cj;go_upto_region 3 with fail;refine wl<|ZA (Z9 i) (Z9 i)<|YF (Zv rfl (i) (i) dF)<|wn ?_;simp only[pu];go_upto_region 8 with fail;refine ZU (C:=fun U=>Below wr.heap.size wr U) (by kernel_rfl) (by kernel_rfl) ((Below.refl _ wr).drew) ?_;refine gy (Z9 i)<|gy (Z9 i)<|gy (Z9 n)<|Yz ZT (fun U hU=>Zv rfl i n dT (by kernel_rfl) (by kernel_rfl) U)<|gy ZT<|gy (.func (.func 118) #[] #[])<|gy (.slice (some ⟨b,off,none⟩) n k)<|gy (Z9 i) <|
      Yz (Z7 b (off+i*2)) (fun U hU=>Yn b off n k i hin U _ _ rfl (by kernel_rfl) (by kernel_rfl))<|Zj rfl ⟨b,off+i*2,none⟩ (.agg (ZQ y)) (fun U hU=>ZC (Zu hrx hU)) <|
      Zj rfl ⟨g4,0,none⟩ (.agg (ZQ q)) (fun U hU=>U5 (BR.below BR.lt hU)) ?_
    refine Zz (by kernel_rfl) (some 46) rfl 118 #[.agg (ZQ y),.agg (ZQ q)] (Z9 r) (fun U hU=>by kernel_rfl) (fun U hU=>(RZ y q U).mono fun e w2 z=>⟨by rw[z.1,HR.out],hU.trans (z.2.mono hU.size)⟩) ?_;refine Yz (.bool fF) (fun U hU=>YA rfl r 0 HT.out (by kernel_rfl) (by kernel_rfl) U)<|gy (.bool fF)<|gy (Z9 i)<|gy (.bool fF) ?_;simp only[pu];apply wpQuiet_nil;intro V9 X9;have SK:=Z8 (gI.out.trans ((HB.out.trans (X9.mono HB.out.size)).mono gI.out.size));clear X9 HB hrx BR HR HT;go_wp2_with fail;go_ret2;exact⟨rfl,SK.out⟩
   ·rw[decide_eq_false (fun h=>hin h.1)] at BX;subst BX;go_upto_region 3 with fail;refine wl<|ZA (Z9 i) (Z9 i)<|YF (Zv rfl (i) (i) dF)<|wn ?_;simp only[pu];go_upto_region 8 with fail;refine ZU (C:=fun U=>Below wr.heap.size wr U) (by kernel_rfl) (by kernel_rfl) ((Below.refl _ wr).drew) ?_;refine gy (Z9 i)<|gy (Z9 i)<|gy (Z9 n)<|Yz ZW (fun U hU=>Zv rfl i n dF (by kernel_rfl) (by kernel_rfl) U)<|gy ZW<|Wx<|Wx<|Wx<|Wx<|Wx<|Wx<|Wx<|Wx<|gy ZW<|gy (Z9 i)<|gy ZW ?_;simp only[pu];apply wpQuiet_nil;intro V9 X9;have SK:=Z8 (gI.out.trans ((HB.out.trans (X9.mono HB.out.size)).mono gI.out.size));clear X9 HB;go_wp2_with fail;go_ret2;exact⟨rfl,SK.out⟩
theorem Nh {w:World}{B:Nat}{v:Value}{E:List Eo}(h:ZE w B v E)(hs:Vt E)(hl:E.length<=1000000)(q:Eo):Calls Tryz.prog 117 #[v,.agg (ZQ q),.func (.func 118) #[] #[]] w fun e w'=>e=.returned (.tuple #[Z9 (Zw E q),.bool (Xk E q)])/\Below w.heap.size w w':=by
 obtain⟨a,c,rfl,h1,-⟩:=h.cs;exact su a c E q w h1 (y7 hs) hl
end Go.Proofs.YtnelmomagdcmnaaGreat.Ex
