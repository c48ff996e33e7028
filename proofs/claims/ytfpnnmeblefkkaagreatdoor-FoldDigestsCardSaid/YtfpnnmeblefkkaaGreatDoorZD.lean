/-
  FoldDigests returns true for every input: Digest gives the reference's digest of any results.
-/
import Derived.Test.YtfpnnmeblefkkaaGreatDoorD29
import Derived.Test.YtfpnnmeblefkkaaGreatDoorCards
import Derived.Test.YtfpnnmeblefkkaaGreatDoorTie
import Derived.SevenTiedAt
set_option maxRecDepth 100000
set_option maxHeartbeats 8000000
set_option linter.unusedSimpArgs false
set_option linter.unusedVariables false
namespace Go.Proofs.YtfpnnmeblefkkaaGreatDoor.Lg
attribute [local irreducible] wpList wpQuiet
open Mo (YK YR Yl Yw)
open Go.RowKit
theorem EY (ar ak:Option Addr)(cr ck:Nat)(R:List X6)(L:List Int)(w:World)(hG:Glob w)(hn:R.length<=9223372036854775807)(hR:Cs w ar (U9 R)/\RsW R)(hl:L.length<=9223372036854775807)(hk:Cs w ak (Xb L)) :
  Calls Tryz.prog 6 #[.slice ar R.length cr,.slice ak L.length ck] w fun e w'=>e=.returned ZW/\Below w.heap.size w w':=by
 have HK:=Z9 (fun(V:World) (h:Below w.heap.size w V)=>(AP as6 as7 V (hG.below hG.size h)).mono fun e w' (q:e=.returned ZW/\Below V.heap.size V w')=>(⟨q.1,h.trans (q.2.mono h.size)⟩:e=.returned ZW/\Below w.heap.size w w'));have Ui:=Z9 hl;have HCK:=Z9 hk;have HR:=Z9 hR;have HNR:=Z9 hn;have XA:=Z9 hG;clear hl hk hR hn hG;go_enter Tryz.func6,Tryz.ntmps6;go_upto_region 1 with fail;have CLn:=lG w.heap.size ak L.length ck (w.alloc (.cells #[.slice ak L.length ck] 22)) (heap_alloc_last w _) Ui.out;have hor:=one_row ak L.length ck w;have hb1:Below w.heap.size w (w.alloc (.cells #[.slice ak L.length ck] 22)):=(Below.refl _ w).alloc (Nat.le_refl _) _;have aR2:=Z9 (HCK.out.below hb1);generalize w.alloc (.cells #[.slice ak L.length ck] 22)=W1 at *
 have HB1:=Z9 hb1;clear hb1;by_cases hL:160<L.length
 ·rw[decide_eq_true (by omega)] at CLn;refine wl<|ZV (.slice ak L.length ck) ?_;refine Zv (by kernel_rfl) (some 11) rfl 53 1 #[(0,.tmp 10)] rfl #[(0,.slice ak L.length ck)] (by kernel_rfl) (.slice (some ⟨w.heap.size,0,none⟩) 1 1) _ hor ?_;refine YM ZW (fun w'=>W1=w') CLn (fun W2 hW=>?_);subst hW;refine Rf ZW undef undef undef ZW<|wn ?_;simp only[pu];clear CLn hor;go_upto_region 2 with fail;refine wl<|YM ZW (fun w'=>Below w.heap.size w w') (HK.out W1 (HB1.out)) (fun V9 VK=>?_);refine ZV ZW<|wn ?_;simp only[pu];have HE:=Z9 VK;clear VK;go_wp2_with fail;go_ret;exact⟨rfl,HE.out⟩
 rw[decide_eq_false (by omega)] at CLn;have hnr:=HNR.out;by_cases h40:(40:Int)<(R.length:Int)
 ·refine wl<|ZV (.slice ak L.length ck) ?_;refine Zv (by kernel_rfl) (some 11) rfl 53 1 #[(0,.tmp 10)] rfl #[(0,.slice ak L.length ck)] (by kernel_rfl) (.slice (some ⟨w.heap.size,0,none⟩) 1 1) _ hor ?_;refine YM ZY (fun w'=>W1=w') CLn (fun W2 hW=>?_);subst hW;refine Yr ZY (.slice ar R.length cr) (Z8 R.length)<|ZM (Zn rfl R.length 40 (decide_eq_true h40))<|ZV ZW<|wn ?_;simp only[pu];clear CLn hor;go_upto_region 2 with fail;refine wl<|YM ZW (fun w'=>Below w.heap.size w w') (HK.out W1 (HB1.out)) (fun V9 VK=>?_);refine ZV ZW<|wn ?_;simp only[pu];have HE:=Z9 VK;clear VK;go_wp2_with fail;go_ret;exact⟨rfl,HE.out⟩
 have aJ1:Hid (R.length<=40):=Z9 (by omega);refine wl<|ZV (.slice ak L.length ck) ?_;refine Zv (by kernel_rfl) (some 11) rfl 53 1 #[(0,.tmp 10)] rfl #[(0,.slice ak L.length ck)] (by kernel_rfl) (.slice (some ⟨w.heap.size,0,none⟩) 1 1) _ hor ?_;refine YM ZY (fun w'=>W1=w') CLn (fun W2 hW=>?_);subst hW;refine Yr ZY (.slice ar R.length cr) (Z8 R.length)<|ZM (Zn rfl R.length 40 (decide_eq_false h40))<|ZV ZY<|wn ?_;simp only[pu];clear CLn hor;clear h40 hnr;have CMd:=jB ak ck L W1 aR2.out (by omega);go_upto_region 3 with fail;refine wl<|ZV (.slice ak L.length ck) <|
  XI (fun v w'=>∃ la lk B cc p v2 E,v=.tuple #[.agg (ZT la (List.length B) lk cc),Z7 p,v2]/\Cs w' la (acc B)/\B.length<=lk/\MG B cc/\0<=p/\p<=3/\OL w' W1.heap.size v2 E/\E.length<=6/\Below W1.heap.size W1 w') (CMd.mono fun e w' q=>by obtain⟨la,lk,B,cc,p,v2,E,h1,h2⟩:=q; exact⟨_,h1,la,lk,B,cc,p,v2,E,rfl,h2⟩) (fun vv V2 hq=>?_)
 obtain⟨la,lk,B,cc,p,v2,E2,rfl,hcs,hlk,aJ2,hp0,hp3,hbo,h26,hbm⟩:=hq;obtain⟨a2,c2,rfl,su,hc2⟩:=hbo.bse;obtain⟨V3,hst3,hb3,Uo⟩:=Vk V2 la B.length lk cc;refine U8 (.tuple #[.agg (ZT la B.length lk cc),Z7 p,.slice a2 E2.length c2]) (.agg (ZT la B.length lk cc)) (Z7 p) (.slice a2 E2.length c2) ?_;refine Zy rfl (some 5) rfl (Z5 V2.heap.size 0) (V2.alloc (.cells (ZT none 0 0 0) 30)) (by kernel_rfl) ?_;refine Zk rfl (hst3)<|ZB (Z7 p) (.slice a2 E2.length c2)<|wn ?_;simp only[pu];obtain⟨g3,hg3⟩:=ZQ V2.heap.size;have at1:=hbm.trans (hb3.mono hbm.size);have HLQ:=Z9 aJ2;have HLK:=Z9 hlk;have qU:Hid (W64 p):=Z9 ⟨hp0,by omega⟩;rw[hg3] at Uo ⊢;have Xr:=Z9 Uo;have HB3:=Z9 (HB1.out.trans (at1.mono HB1.out.size));have HC3:=Z9 (hcs.below hb3);have iW:=Z9 (su.below hb3);have HC2:Hid (E2.length<=c2/\E2.length<=6):=Z9 ⟨hc2,h26⟩;have aS7:=Z9 at1;clear CMd hcs hlk aJ2 hp0 hp3 hbo h26 hbm su hc2 hst3 hb3 Uo at1 hg3;have CA:=bD B cc p E2 la a2 lk c2 V3 HC3.out HLK.out HLQ.out.d qU.out iW.out (by have:=HC2.out; omega);have hgs:=aa6 (A:=B) (c:=cc) (p:=p) iW.out.all;rw[Xe] at hgs;have hrl:=JO B cc p (lsB E2) E2.length;generalize TI B cc p (lsB E2) E2.length=Q at *
 generalize Ye B cc p (lsB E2) E2.length=Y at *
 have HGS:=Z9 hgs;have HQL:Hid (Q.length<=6):=Z9 (by rw[hrl]; exact HC2.out.2);clear hgs hrl;go_upto_region 4 with fail;refine wl<|ZL rfl ⟨g3,0,none⟩ (.agg (ZT la B.length lk cc)) (ZO Xr.out)<|ZB (Z7 p) (.slice a2 E2.length c2) <|
  XI (fun v w'=>∃ ad k b q,v=.tuple #[.agg (ZT ad Y.1.length k Y.2),.slice b Q.length q]/\Cs w' b (U9 Q)/\Below V3.heap.size V3 w') (CA.mono fun e w' q=>by obtain⟨ad,k,v,h1,h2,h3,h4,h5⟩:=q; obtain⟨b,q,rfl,h6,-⟩:=Yd h4; exact⟨_,h1,ad,k,b,q,rfl,h6,h5⟩) (fun vv V4 hq=>?_)
 obtain⟨ad,k,bq,q,rfl,hr4,hb4⟩:=hq;obtain⟨V5,hst5,hn5,hx5⟩:=Vk V4 ad Y.1.length k Y.2;refine Yr (.tuple #[.agg (ZT ad Y.1.length k Y.2),.slice bq Q.length q]) (.agg (ZT ad Y.1.length k Y.2)) (.slice bq Q.length q) ?_;refine Zy rfl (some 8) rfl (Z5 V4.heap.size 0) (V4.alloc (.cells (ZT none 0 0 0) 30)) (by kernel_rfl) ?_;refine Zk rfl (hst5)<|ZV (.slice bq Q.length q)<|wn ?_;simp only[pu];have hb5:=hb4.trans (hn5.mono hb4.size);have Q8:=Z9 (HB3.out.trans (hb5.mono HB3.out.size));have HQ5:=Z9 (hr4.below hn5);obtain⟨g8,L6⟩:=ZQ V4.heap.size;rw[L6];clear CA hst5 hn5 hx5 hr4 hb4 hb5 L6;have CD:=fun V (h:Below w.heap.size w V)=>Jw R ar cr V (XA.out.below XA.out.size h) (HR.out.1.below h) HR.out.2 (by have:=aJ1.out; omega);have CE:=fun V (h:Below w.heap.size w V)=>Jv R ar cr V (XA.out.below XA.out.size h) (HR.out.1.below h) HR.out.2 (by have:=aJ1.out; omega);have CF:=fun V (h:Below w.heap.size w V) (h5:Below V5.heap.size V5 V)=>Jw Q bq q V (XA.out.below XA.out.size h) (HQ5.out.below h5) HGS.out (by have:=HQL.out; omega);have CG:=fun V (h:Below w.heap.size w V) (h5:Below V5.heap.size V5 V)=>Jv Q bq q V (XA.out.below XA.out.size h) (HQ5.out.below h5) HGS.out (by have:=HQL.out; omega);have Vl:=Z9 (Xw (R.map Y9)).1;have HS2:=Z9 (Xw (Q.map Y9)).1;generalize Zb (R.map Y9)=S1 at *
 generalize Zb (Q.map Y9)=S2 at *
 go_upto_region 5 with fail;refine wl<|ZV (.slice ar R.length cr)<|YM (.agg (ZF S1)) (fun w'=>Below V5.heap.size V5 w') (CD V5 Q8.out) (fun Va tJ=>?_);have hwa:=Q8.out.trans (tJ.mono Q8.out.size);refine ZV (.slice ar R.length cr)<|YM (.agg (ZF S1)) (fun w'=>Below Va.heap.size Va w') (CE Va hwa) (fun Vb hVb=>?_);have h5b:=tJ.trans (hVb.mono tJ.size);have hwb:=Q8.out.trans (h5b.mono Q8.out.size);refine Yn ZW (Ht rfl S1 Vl.out)<|ZB ZW (.slice bq Q.length q)<|YM (.agg (ZF S2)) (fun w'=>Below Vb.heap.size Vb w') (CF Vb hwb h5b) (fun Vc hVc=>?_);have h5c:=h5b.trans (hVc.mono h5b.size);have hwc:=Q8.out.trans (h5c.mono Q8.out.size);refine ZV (.slice bq Q.length q)<|YM (.agg (ZF S2)) (fun w'=>Below Vc.heap.size Vc w') (CG Vc hwc h5c) (fun Vd hVd=>?_);have hwd:=hwc.trans (hVd.mono hwc.size);refine Yn ZW (Ht rfl S2 HS2.out)<|ZB ZW ZW<|YM ZW (fun w'=>Below w.heap.size w w') (HK.out Vd hwd) (fun Ve hVe=>?_);have HE:=Z9 hVe;clear tJ hwa hVb h5b hwb hVc h5c hwc hVd hwd hVe CD CE CF CG;refine ZB ZW ZW<|wn ?_;simp only[pu];go_wp2_with fail;go_ret;exact⟨rfl,HE.out⟩
end Go.Proofs.YtfpnnmeblefkkaaGreatDoor.Lg
namespace Go.Proofs.YtfpnnmeblefkkaaGreatDoor.foldDigests
open Go.ChangeShapes Go.WideShapes Go.ChangeAt Go.RowKit
theorem walk (a0:Option Addr)(c0:Nat)(L0:List Lg.X6)(a1:Option Addr)(c1:Nat)(L1:List Int)(w:World)(hn0:L0.length<=9223372036854775807)(hr0:(Cs w a0 (Lg.U9 L0)/\Lg.RsW L0))(hn1:L1.length<=9223372036854775807)(hr1:Cs w a1 (Xb L1))(hG:Glob w) :
    Calls Tryz.prog 6 #[.slice a0 L0.length c0,.slice a1 L1.length c1] w fun e w'=>e=.returned (.bool true)/\Below w.heap.size w w':=by
  exact Lg.EY a0 a1 c0 c1 L0 L1 w hG hn0 hr0 hn1 hr1
theorem lifted (os:Os)(started:os.Started)(H:Type)(enc:TypeId×Value->H) :
    ReturnsInHanded {} Tryz.checked os 6 .any (fun w args=>(Rows.foldDigestsSpec.pre enc Tryz.prog Tryz.f6 [] false w args/\laidMetH Tryz.prog laid2 w)/\sizedMet enc Tryz.prog Tryz.f6 (OpenSpec.ofChange Rows.foldDigestsSpec) false w args)
      (Rows.foldDigestsSpec.post enc Tryz.prog Tryz.f6 false true false false):=by
  refine returnsInHanded_of_change_and (C:=Tryz.checked) (X:=fun w _=>laidMetH Tryz.prog laid2 w) (fun _ _ _ hh h=>h.of_heap hh) own started (by kernel_rfl) Tryz.func6
    (ChangeSpec.witness_shaped (enc:=enc) (C:=Tryz.checked) (os:=os) (X:=fun w _=>laidMetH Tryz.prog laid2 w) false (World.doorLaid Tryz.prog 400 os) #[.slice none 0 0,.slice none 0 0] 8 rfl (World.shaped_of_RefB (by kernel_rfl) (by kernel_rfl)) (by kernel_rfl) (by kernel_rfl) (by kernel_rfl) (door_met os _)) ?_
  intro W base args ds gs before hval0 hW _ hsz0 hL _;have hval:∀ (j:Nat) t v,Tryz.f6.params[j]?=some t->args[j]?=some v->Value.okWide Tryz.prog W .any base t v:=hval0;have hsz:(DataW.weightsEach Tryz.prog (Tryz.f6.params.toList++Rows.foldDigestsSpec.plain.varTypes Tryz.prog) (ds++gs)).all (·<=reachBytes)=true:=hsz0;have hW':=hW;obtain⟨p,q,hA0,hV,rfl,hfz,hnd⟩:=hW;have hA:DataW.TrodAll enc Tryz.prog W 0 (fun _=>true) true Tryz.f6.params.toList args.toList ds p:=hA0;rw[Tryz.params6] at hA hval hsz;obtain⟨v0,vs0,d0,ds0,p0,q0,hargs,rfl,rfl,h0,r0⟩:=trodAll_cons hA;obtain⟨v1,vs1,d1,ds1,p1,q1,rfl,rfl,rfl,h1,r1⟩:=trodAll_cons r0;obtain⟨rfl,rfl,rfl⟩:=trodAll_nil r1;obtain rfl:args=#[v0,v1]:=by cases args; simp_all
  obtain⟨rfl,rfl⟩:=trodVars_none hV;obtain⟨b0,l0,cap0,rfl⟩:=okWide_slice Tryz.underlying35 (hval 0 35 v0 rfl rfl);have k0:=h0;have lt0:∀ x∈p0,x.block<W.heap.size:=by obtain⟨m,hm⟩:=k0; exact DataW.trod_lt m _ _ _ hm
  obtain⟨a0,c0,L0,e0,hn0,hr0⟩:∃ a c L,Value.slice b0 l0 cap0=.slice a (List.length L) c/\L.length<=9223372036854775807/\(Cs W a (Lg.U9 L)/\Lg.RsW L):=by
    obtain⟨fuel,hf⟩:=h0;obtain⟨a,c,L,e,hn,hr⟩:=Lg.jy hf;exact⟨a,c,L,by simpa [Value.cells] using e,hn,hr⟩
  obtain⟨rfl,rfl,rfl⟩:b0=a0/\l0=L0.length/\cap0=c0:=by simpa using e0
  obtain⟨b1,l1,cap1,rfl⟩:=okWide_slice Tryz.underlying22 (hval 1 22 v1 rfl rfl);have k1:=h1;have lt1:∀ x∈p1,x.block<W.heap.size:=by obtain⟨m,hm⟩:=k1; exact DataW.trod_lt m _ _ _ hm
  obtain⟨a1,c1,L1,e1,hn1,hr1⟩:∃ a c L,Value.slice b1 l1 cap1=.slice a (List.length L) c/\L.length<=9223372036854775807/\Cs W a (Xb L):=by
    obtain⟨fuel,hf⟩:=h1;obtain⟨a,c,L,e,hn,hr⟩:=Lg.jw hf;exact⟨a,c,L,by simpa [Value.cells] using e,hn,hr⟩
  obtain⟨rfl,rfl,rfl⟩:b1=a1/\l1=L1.length/\cap1=c1:=by simpa using e1
  clear hA0 hval0;refine(walk b0 cap0 L0 b1 cap1 L1 W hn0 hr0 hn1 hr1 (Fq hL)).mono fun e W' ⟨he,bel⟩=>?_;subst he;exact⟨_,rfl,_,_,_,[],_,[],hW',trodAll_mk1 (shut_bool Tryz.underlying4 _),(trodAll_cons_mk (Below.trod laidOut (by kernel_rfl) (of_decide_eq_true (by kernel_rfl)) k0 bel lt0) (trodAll_cons_mk (Below.trod laidOut (by kernel_rfl) (of_decide_eq_true (by kernel_rfl)) k1 bel lt1) trodAll_mk0)),rfl,bel.frame _,fun h=>by cases h⟩
theorem over:Rows.foldDigestsRow.holds Tryz.pinned (OpenSpec.ofChange Rows.foldDigestsSpec):=
  OpenClaim.holds_of_wide 6 Tryz.f6 rfl rfl rfl rfl rfl rfl rfl ⟨rfl,rfl,rfl,rfl,rfl⟩ rfl rfl rfl rfl rfl (by kernel_rfl) Tryz.func6 (by kernel_rfl)
    (of_decide_eq_true (by kernel_rfl)) (by unfold Func.isWrapper; first | (rw[if_pos (by decide +kernel)]; kernel_rfl) | (rw[if_neg (by decide +kernel)]; exact⟨rfl,rfl⟩))
    (fun os started H enc _=>lifted os started H enc)
end Go.Proofs.YtfpnnmeblefkkaaGreatDoor.foldDigests
namespace Go.Proofs.YtfpnnmeblefkkaaGreatDoor
open Go
theorem NJ:Rows.FoldDigestsCardSaid:=
  Claim7.holds_tied_plain_at .later [] [.data,.data] true (true, "6dae5ef62069c1fc3ba6e0e574e5a744f1e27d887abf4afe5177be0ef7dd4125") true
    foldDigests.over (fun _ h=>by cases h) (by kernel_rfl) (fun _ h=>by cases h) foldDigests_row_tie rfl ⟨rfl,rfl⟩ (by kernel_rfl) rfl
    (fun f fn hf hfn=>by
      obtain rfl:f=6:=Option.some.inj ((show Tryz.prog.funcNamed "mempool/mempoollaw14.FoldDigests" = some 6 by kernel_rfl).symm.trans hf) |>.symm;obtain rfl:fn=Tryz.f6:=(Option.some.inj (Tryz.func6.symm.trans hfn)).symm;exact⟨by kernel_rfl,fun j t ht=>by
        rw[Tryz.params6] at ht;have hm:t∈[35,22]:=(by simpa using Array.mem_of_getElem? ht);have hall:([35,22].all fun u=>!Tryz.prog.wantsStandIn u)=true:=(by kernel_rfl);exact(show Tryz.prog.wantsStandIn t=false by simpa using List.all_eq_true.1 hall t hm)⟩)
    (by kernel_rfl)
#print axioms NJ
end Go.Proofs.YtfpnnmeblefkkaaGreatDoor
