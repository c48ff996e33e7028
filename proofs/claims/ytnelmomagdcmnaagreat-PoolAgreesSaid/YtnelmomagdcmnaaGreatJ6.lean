/-
  Texts joined.
-/
import Derived.Test.YtnelmomagdcmnaaGreatJ5
set_option maxRecDepth 100000
set_option maxHeartbeats 8000000
set_option linter.unusedSimpArgs false
set_option linter.unusedVariables false
namespace Go.Proofs.YtnelmomagdcmnaaGreat
open Go.RowKit
theorem Jh (w:World):(w.alloc (.cells #[] 5)).ownsRow w.heap.size 5 1 (.slice (some ⟨w.heap.size,0,none⟩) 0 0) 0 []:=
  ⟨by simp,.inr ⟨w.heap.size,0,#[],rfl,Nat.le_refl _,heap_alloc_new w _,by omega,by unfold maxLen; omega,rfl,rfl⟩⟩
theorem JD (b:Int)(j:Nat)(hj:j<8):(Yn b).take (j+1)=(Yn b).take j++[b / 2 ^ (56-8*j) % 256]:=by
  match j,hj with
  | 0,_ | 1,_ | 2,_ | 3,_ | 4,_ | 5,_ | 6,_ | 7,_=>rfl
theorem Cb (L:List Int):(padded L).length=L.length+zeros L.length+9/\(padded L).length % 64=0:=by
  rw[Kv,List.length_append,jW];refine⟨by omega,?_⟩;unfold zeros;omega
theorem Hq (L:List Int)(h8:∀ x,x∈L->W8 x):∀ x,x∈padded L->W8 x:=by
  intro x hx;rw[Kv,List.mem_append] at hx;rcases hx with hx | hx
  · exact h8 x hx
  · exact NP _ x hx
theorem yt.part {w:World}{g:Nat}{B:List Int}(h:yt w g 0 B)(o n:Nat)(hn:o+n<=B.length):yt w g o ((B.drop o).take n):=by
  intro j hj;have hj':j<n:=by simp at hj; omega
  have:=h (o+j) (by omega);rw[Nat.zero_add] at this;rw[this];simp only[List.getD];rw[List.getElem?_take_of_lt hj',List.getElem?_drop]
theorem jV {w:World}{g:Nat}{H:List Int}(h:XM w g 176 H)(hH:H.length=8):(Instr.loadAt 176 (Z7 g 0)).run Tryz.prog w=.ok (.agg (Zn H)) w:=
  run_loadAt_mid w g 0 176 (H.map (Value.int .u32)) (.array 8 175) (fun j v hv=>by
    rw[cell_of_row w g _ _ 176 (0,0) h];simpa using hv) (by kernel_rfl) rfl (by simp only[List.length_map,hH]; kernel_rfl)
theorem yj {P:Program}{C:World->Prop}{ops:Array Oper}{Q:Act->Prop}{a:Act}{op:Oper}{rest:List Oper}(hgd:op.guard=none)(ty:TypeId)(x l h:Operand)(ho:op.op=.slice ty x (some l) (some h) none)
    (vx vl vh v:Value) (hx:a.eval x=vx) (hl:a.eval l=vl) (hh:a.eval h=vh) (hs:∀ w,C w->(Instr.sliceAt ty vx (some vl) (some vh) none).run P w=.ok v w)
    (hK:wpQuiet P ops C Q rest (a.put op.dst v)):wpQuiet P ops C Q (op::rest) a:=by
  refine Qo hgd v (fun w hC=>?_) hK;unfold execOp;simp only[ho,hx,hl,hh,Option.map_some,Option.map_none,Sem.run_bind,hs w hC];rfl
theorem slice_mid (g n c l h:Nat)(w:World)(hl:l<=h)(hh:h<=c)(hc:c≠l):(Instr.slice 50 (.slice (some ⟨g,0,none⟩) n c) (some (Z9 (l:Int))) (some (Z9 (h:Int))) none).run Tryz.prog w=.ok (.slice (some ⟨g,l,none⟩) (h-l) (c-l)) w:=by
  rw[BZ .i64 .i64 _ n c l h w hl hh];unfold sF;rw[if_neg hc];simp only[Option.map_some];rw[Addr.add_mid,Nat.zero_add]
theorem kE (a:Option Addr)(c:Nat)(L:List Int)(w:World)(hr:Sl w a c L)(h8:∀ x,x∈L->W8 x)(hn:L.length<=400000) :
    Calls Tryz.prog 63 #[.slice a L.length c] w fun e w'=>e=.returned (.agg (RH (Hu L)))/\Below w.heap.size w w':=by
  obtain⟨i0,hi,hz0,hz1,hz2⟩:=info_parts info5;have HI:=Z8 hi;have HZ0:=Z8 hz0;have HZ1:=Z8 hz1;have HZ2:=Z8 hz2;clear hi hz0 hz1 hz2;have hzn:zeros L.length<=63:=by unfold zeros; omega
  have hb0:Below w.heap.size w (w.alloc (.cells (RH (List.replicate 32 0)) 38)):=(Below.refl _ _).alloc (by simp) _;have hA0:Ab (w.alloc (.cells (RH (List.replicate 32 0)) 38)) w.heap.size 38 (List.replicate 32 0):=heap_alloc_last _ _;have hs0:(w.alloc (.cells (RH (List.replicate 32 0)) 38)).heap.size=w.heap.size+1:=by simp
  have hr1:=EN (EN hr hb0) ((Below.refl _ (w.alloc (.cells (RH (List.replicate 32 0)) 38))).alloc (Nat.le_refl _) (.cells #[] 5));go_enter Tryz.func63,Tryz.ntmps63;go_upto_region 1 with fail;change Code.wp _ _ _ _ (w.alloc (.cells (RH (List.replicate 32 0)) 38));generalize w.alloc (.cells (RH (List.replicate 32 0)) 38)=W0 at *
  have HR1:=Z8 hr1;have HB0:=Z8 hb0;have HA0:=Z8 hA0;have gJ:=Z8 hs0;have H8:=Z8 h8;clear hr1 hr hb0 hA0 hs0 h8;go_wp2_with (first
    | (at_builtin; refine Sj rfl (.tmp 10) (.tmp 11) 50 rfl W0.heap.size i0 Tryz.underlying50 HI.out HZ0.out HZ1.out HZ2.out _ 0 [] rfl (Jh W0) a L.length c L rfl rfl HR1.out (by omega) (by simp) ?_; intro v1 w1 ho1 hg1; have hb1:=UN (w0:=W0) (Nat.le_refl _) (by simp) (Jh W0) ((Below.refl _ W0).alloc (Nat.le_refl _) _) hg1; clear hg1)
    | (at_builtin; refine Sj rfl (.tmp 12) (.tmp 13) 50 rfl W0.heap.size i0 Tryz.underlying50 HI.out HZ0.out HZ1.out HZ2.out _ (0+L.length) _ rfl (ho1.alloc _) (some ⟨w1.heap.size,0,none⟩) 1 1 [128] rfl rfl (BX _ _ _) (by omega) (by have:=hb1.size; simp; omega) ?_; intro v2 w2 ho2 hg2; have hb2:=UN (Nat.le_refl _) (hb1.alloc hb1.size _).size (ho1.alloc _) (hb1.alloc hb1.size _) hg2; clear hg2))
  have hO2:Own w2 W0.heap.size v2 (L++[128]):=by
    unfold Own;simpa using ho2
  clear ho1 ho2 hb1 HR1;go_loopg [3] (zeros L.length) (fun g s3 wx=>∃ z:Nat,z<=zeros L.length/\Own wx W0.heap.size s3 (L++[128]++List.replicate z 0)/\Below W0.heap.size W0 wx/\zeros L.length-z=g)
  case atStart=>exact⟨0,by omega,by simpa using hO2,hb2,rfl⟩
  case round=>
    clear hO2 hb2 w2;obtain⟨z,hz,hO,hb,hgk⟩:=hrel;obtain⟨a3,c3,rfl,-,-⟩:=hO.sl;have hl:(L++[128]++List.replicate z 0).length=L.length+1+z:=(by simp; omega);have hsz:=hb.size;by_cases hlt:z<zeros L.length
    · have ht:¬ ((L.length+1+z:Nat):Int) % 64=56:=(by unfold zeros at hlt; omega);have eG:wr.ownsRow W0.heap.size 5 1 (.slice a3 (L.length+1+z) c3) (L.length+1+z) ((L++[128]++List.replicate z 0).map (Value.int .u8)):=by
        unfold Own at hO;rwa [hl] at hO
      rw[hl];have HL:Hid (∀ (v:Value) (w':World),w'.ownsRow W0.heap.size 5 1 v (L.length+1+z+1) ((L++[128]++List.replicate z 0).map (Value.int .u8)++[0].map (Value.int .u8))->Own w' W0.heap.size v (L++[128]++List.replicate (z+1) 0)):=Z8 (by
        intro v w' h;unfold Own;have e:(L++[128]++List.replicate (z+1) (0:Int)).length=L.length+1+z+1:=(by simp; omega);have e2:L++[128]++List.replicate (z+1) (0:Int)=(L++[128]++List.replicate z 0)++[0]:=(by rw[List.replicate_succ',List.append_assoc,List.append_assoc,List.append_assoc]);rw[e,e2,List.map_append (l₂:=[0])];exact h)
      have Af:=Z8 hlt;have hq:L.length+1+z<=1000000:=(by omega);clear hO hlt hl;generalize (L++[128]++List.replicate z 0).map (Value.int .u8)=xs at *
      generalize hqq:L.length+1+z=q at *
      clear hqq;go_wp2_with (at_builtin; refine Sj rfl _ _ 50 rfl W0.heap.size i0 Tryz.underlying50 HI.out HZ0.out HZ1.out HZ2.out _ q _ rfl (eG.alloc _) (some ⟨wr.heap.size,0,none⟩) 1 1 [0] rfl rfl (BX _ _ _) (by omega) (by simp; omega) ?_; intro v3 w3 ho3 hg3; have hb3:=UN (Nat.le_refl _) (hb.alloc hsz _).size (eG.alloc _) (hb.alloc hsz _) hg3; clear hg3; have HO3:=Z8 (HL.out _ _ ho3); clear ho3)
      go_roundg (zeros L.length-(z+1))
      case measure=>have:=Af.out; omega
      case rel=>exact⟨z+1,by have:=Af.out; omega,HO3.out,hb3,rfl⟩
    · have ht:((L.length+1+z:Nat):Int) % 64=56:=(by unfold zeros at hlt hz; omega);have hzz:z=zeros L.length:=(by omega);have eG:Own wr W0.heap.size (.slice a3 (L.length+1+z) c3) (L++[128]++List.replicate (zeros L.length) 0):=by
        rw[<- hzz];rwa [hl] at hO
      rw[hl];have hq:L.length+1+z<=1000000:=(by omega);have hP:(L++[128]++List.replicate (zeros L.length) 0).length=L.length+1+z:=(by rw[<- hzz]; exact hl);have HPD:Hid (∀ j,j=8->(L++[128]++List.replicate (zeros L.length) 0)++(Yn ((L.length:Int)*8)).take j=padded L):=Z8 (by
        intro j hj;rw[hj,show(Yn ((L.length:Int)*8)).take 8=Yn ((L.length:Int)*8) from rfl];unfold padded;rw[show(L.length:Int)*8 % 18446744073709551616=(L.length:Int)*8 by omega])
      have HO:=Z8 eG;have HP:=Z8 hP;have HZZ:=Z8 hzz;clear hO hlt hl eG hP hzz hgk;generalize L++[128]++List.replicate (zeros L.length) 0=P at *
      generalize hqq:L.length+1+z=q at *
      have HQQ:=Z8 hqq;clear hqq;go_upto_region 4 with fail;generalize hln:L.length=ln at *
      have Oc:=Z8 hln;clear hln;go_wp2_with fail;have hB:=Z8 hb;clear hb hsz ht;go_loopg [3,5] 8 (fun g s3 s5 wx=>∃ j:Nat,j<=8/\s5=Z9 (7-(j:Int))/\Own wx W0.heap.size s3 (P++(Yn ((ln:Int)*8)).take j)/\Below W0.heap.size W0 wx/\8-j=g)
      case atStart=>
        refine⟨0,by omega,by rfl,?_,hB.out,rfl⟩;rw[List.take_zero,List.append_nil];exact HO.out
      case round=>
        clear HO hB;obtain⟨j,hj,rfl,hO,hb,hgk⟩:=hrel;obtain⟨a3,c3,rfl,-,-⟩:=hO.sl;have hl:(P++(Yn ((ln:Int)*8)).take j).length=q+j:=(by rw[List.length_append,HP.out,List.length_take,RZ]; omega);have hsz:=hb.size;by_cases hlt:j<8
        · have eG:wr.ownsRow W0.heap.size 5 1 (.slice a3 (q+j) c3) (q+j) ((P++(Yn ((ln:Int)*8)).take j).map (Value.int .u8)):=by
            unfold Own at hO;rwa [hl] at hO
          rw[hl];have HL:Hid (∀ (v:Value) (w':World),w'.ownsRow W0.heap.size 5 1 v (q+j+1) ((P++(Yn ((ln:Int)*8)).take j).map (Value.int .u8)++[(ln:Int)*8 / 2 ^ (56-8*j) % 256].map (Value.int .u8))->Own w' W0.heap.size v (P++(Yn ((ln:Int)*8)).take (j+1))):=Z8 (by
            intro v w' h;unfold Own;have e:(P++(Yn ((ln:Int)*8)).take (j+1)).length=q+j+1:=(by rw[List.length_append,HP.out,List.length_take,RZ]; omega);rw[e,JD _ _ hlt,<- List.append_assoc,List.map_append (l₂:=[_])];exact h)
          have hs:8*(7-(j:Int))=((56-8*j:Nat):Int):=(by omega);have au5:56-8*j<=64:=(by omega);have HJ:Hid (7-((j+1:Nat):Int)=7-(j:Int)-1):=Z8 (by omega);have hqj:q+j<=1000008:=(by omega);clear hO hl;generalize (P++(Yn ((ln:Int)*8)).take j).map (Value.int .u8)=xs at *
          generalize hmm:56-8*j=m at *
          clear hmm;have e1:=fun x=>an3 x m au5;generalize hqq:q+j=r at *
          clear hqq;go_wp2_with (at_builtin; refine Sj rfl _ _ 50 rfl W0.heap.size i0 Tryz.underlying50 HI.out HZ0.out HZ1.out HZ2.out _ r _ rfl (eG.alloc _) (some ⟨wr.heap.size,0,none⟩) 1 1 [(ln:Int)*8 / 2 ^ m % 256] rfl rfl (BX _ _ _) (by omega) (by simp; omega) ?_; intro v3 w3 ho3 hg3; have hb3:=UN (Nat.le_refl _) (hb.alloc hsz _).size (eG.alloc _) (hb.alloc hsz _) hg3; clear hg3; have HO3:=Z8 (HL.out _ _ ho3); clear ho3)
          go_roundg (8-(j+1))
          case measure=>omega
          case rel=>exact⟨j+1,by omega,by rw[HJ.out],HO3.out,hb3,rfl⟩
        · obtain⟨mm,hmm⟩:∃ mm,mm=padded L:=⟨_,rfl⟩;rw[HPD.out j (by omega),<- hmm] at hO;have hpl:=Cb L;rw[<- hmm] at hpl;have h8m:∀ x,x∈mm->W8 x:=(by rw[hmm]; exact Hq L H8.out);rw[HPD.out j (by omega),<- hmm];obtain⟨gm,hgm,au6,au7⟩:=ab8 hO (by rw[hpl.1]; omega);subst hgm;obtain⟨a9,c9,e9,hsl,hcap⟩:=hO.sl;obtain⟨rfl,-,rfl⟩:some ⟨gm,0,none⟩=a9/\mm.length=mm.length/\c3=c9:=(by simpa using e9);have hby:yt wr gm 0 mm:=fun k hk=>by
            obtain⟨b,off,e,-,hc⟩:=sJ hsl hk;obtain⟨rfl,rfl⟩:gm=b/\0=off:=(by simpa using e);exact hc
          have hz0:Ab wr w.heap.size 38 (List.replicate 32 0):=HA0.out.below (by rw[gJ.out]; omega) hb;have hbw:Below w.heap.size w wr:=HB0.out.trans (hb.mono (by rw[gJ.out]; omega));have hml:mm.length<=500000:=(by rw[hpl.1,Oc.out]; omega);have hmT:mm.length=64*(mm.length / 64):=(by omega);have hgw:w.heap.size<gm:=(by have:=gJ.out; omega);have jU:=Z8 hmm;have H8M:=Z8 h8m;clear hO hl e9 hsl hmm h8m hpl hb au6 HPD HP HQQ HZZ;go_upto_region 9 with fail;apply wp_region_lit;refine Zj rfl (some 38) rfl (.agg (Zn eF)) wr (by kernel_rfl) ?_;refine Zj rfl (some 6) rfl (Z7 wr.heap.size 0) (wr.alloc (.cells (List.replicate 8 (.int .u32 0)).toArray 176)) (by kernel_rfl) ?_;apply Xb (w:=wr) (ty:=176) (x:=.tmp 6) (y:=.tmp 38) (c:=(List.replicate 8 (.int .u32 0)).toArray) (c':=Zn eF)
          case hgd=>rfl
          case ho=>rfl
          case hx=>kernel_rfl
          case hy=>kernel_rfl
          case hi=>kernel_rfl
          case hz=>rfl
          case h1=>exact Oq _
          apply wpList_nil;have hbn:=(Below.refl wr.heap.size wr).alloc (Nat.le_refl _) (.cells (Zn eF) 176);have hH:XM (wr.alloc (.cells (Zn eF) 176)) wr.heap.size 176 (states mm 0):=heap_alloc_last _ _;have an4:=hby.below au7 hbn;have hz1:=hz0.alloc (.cells (Zn eF) 176);have an5:=hbw.alloc hbw.size (.cells (Zn eF) 176);clear hby hz0 hbw hbn hsz;generalize wr.alloc (.cells (Zn eF) 176)=V at *
          generalize wr.heap.size=gh at *
          clear wr;generalize hll:mm.length=ml at *
          have O6:=Z8 hll;clear hll;generalize hTT:ml / 64=T at *
          have HTT:=Z8 hTT;have eH:=Z8 hmT;clear hTT hmT;go_wp2_with fail;go_loopg [7] T (fun g s7 wx=>∃ t:Nat,t<=T/\s7=Z9 ((64*t:Nat):Int)/\XM wx gh 176 (states mm t)/\yt wx gm 0 mm/\Ab wx w.heap.size 38 (List.replicate 32 0)/\Below w.heap.size w wx/\T-t=g)
          case atStart=>exact⟨0,by omega,by rfl,hH,an4,hz1,an5,rfl⟩
          case round=>
            clear hH an4 hz1 an5 V;obtain⟨t,ht,rfl,hH,hby,hz,hbw,hgt⟩:=hrel;by_cases hlt3:t<T
            · have hs8:=Ku mm t;have htl:64*t+64<=ml:=(by have:=eH.out; omega);have hti:((64*t:Nat):Int)<(ml:Int):=(by omega);have hco:64*t+64<=c3:=(by omega);have HNX:Hid (64*(t+1)=64*t+64):=Z8 rfl;have HST:Hid (states mm (t+1)=blk (states mm t) ((mm.drop (64*t)).take 64)):=Z8 rfl;have HPT:Hid (∀ w',yt w' gm 0 mm->yt w' gm (64*t) ((mm.drop (64*t)).take 64)):=Z8 (fun w' h=>h.part _ _ (by rw[O6.out]; omega));have HPL:Hid (((mm.drop (64*t)).take 64).length=64):=Z8 (by simp[O6.out]; omega);have lZ:Hid (∀ x,x∈(mm.drop (64*t)).take 64->W8 x):=Z8 (fun x hx=>H8M.out x (List.mem_of_mem_drop (List.mem_of_mem_take hx)));generalize (mm.drop (64*t)).take 64=Bk at *
              generalize hoo:64*t=o at *
              have HOO:=Z8 hoo;clear hoo;have HH:=Z8 hH;have HBY:=Z8 hby;have HZ:=Z8 hz;have Um:=Z8 hbw;clear hH hby hz hbw;go_upto_region 13 with fail;refine ZP (C:=fun w'=>XM w' gh 176 (states mm t)/\yt w' gm 0 mm/\Ab w' w.heap.size 38 (List.replicate 32 0)/\Below w.heap.size w w') 7 (by kernel_rfl) (by kernel_rfl) ⟨HH.out,HBY.out,HZ.out,Um.out.drew⟩ ?_;simp only[List.take_succ_cons,List.take_zero,List.drop_succ_cons,List.drop_zero];refine sD rfl 176 (.tmp 6) rfl ⟨gh,0,none⟩ (.agg (Zn (states mm t))) (by kernel_rfl) (fun w' hC=>jV hC.1 hs8) ?_;refine Qo rfl (.slice (some ⟨gm,0,none⟩) ml c3) (fun w' _=>by kernel_rfl) ?_;refine Qo rfl (Z9 o) (fun w' _=>by kernel_rfl) ?_;refine Qo rfl (Z9 o) (fun w' _=>by kernel_rfl) ?_;obtain⟨p,hp⟩:∃ p,p=o+64:=⟨_,rfl⟩;refine Qo rfl (Z9 p) (fun w' _=>by go_simp; rw[IntKind.wrap_i64]; omega) ?_;refine yj rfl 50 (.tmp 46) (.tmp 47) (.tmp 49) rfl (.slice (some ⟨gm,0,none⟩) ml c3) (Z9 o) (Z9 p) (.slice (some ⟨gm,o,none⟩) 64 (c3-o)) (by kernel_rfl) (by kernel_rfl) (by kernel_rfl)
                (fun w' _=>by have e:=slice_mid gm ml c3 o p w' (by omega) (by omega) (by omega); rw[show p-o=64 by omega] at e; exact e) ?_
              refine su rfl 92 #[.agg (Zn (states mm t)),.slice (some ⟨gm,o,none⟩) 64 (c3-o)] (.agg (Zn (blk (states mm t) Bk))) (fun w' _=>by kernel_rfl)
                (fun w' hC=>(yh (states mm t) Bk gm o (c3-o) w' hs8 HPL.out (HPT.out w' hC.2.1) lZ.out (by have:=hC.1.lt; omega)).mono fun e w'' ⟨he,hb⟩=>
                  ⟨he,hC.1.below hC.1.lt hb,hC.2.1.below (by have:=hC.1.lt; omega) hb,hC.2.2.1.below hC.2.2.1.lt hb,hC.2.2.2.trans (hb.mono hC.2.2.2.size)⟩) ?_
              refine wpQuiet_nil ?_;intro w' hC;have hq8:(Zn (blk (states mm t) Bk)).size=8:=(by simp[Ae _ _ hs8]);have an6:(Zn (states mm t)).size=8:=(by simp[hs8]);apply Vb (ty:=176) (x:=.tmp 6) (y:=.tmp 51) (g:=gh) (c:=Zn (states mm t)) (c':=Zn (blk (states mm t) Bk))
              case hgd=>rfl
              case ho=>rfl
              case hx=>kernel_rfl
              case hy=>kernel_rfl
              case hg=>exact hC.1
              case hi=>rw[hq8]; kernel_rfl
              case hz=>rw[hq8,an6]
              case h1=>exact Oq _
              apply wpList_nil;have hH2:XM (w'.setRow gh (Zn (blk (states mm t) Bk))) gh 176 (blk (states mm t) Bk):=setRow_heap _ _ _ _ _ _ hC.1;have hO:∀ k,k≠gh->(w'.setRow gh (Zn (blk (states mm t) Bk))).heap[k]?=w'.heap[k]?:=fun k hk=>setRow_other w' gh k _ hk;have an7:yt (w'.setRow gh (Zn (blk (states mm t) Bk))) gm 0 mm:=fun k hk=>by
                have:=hC.2.1 k hk;unfold World.cell? at this ⊢;rw[hO gm (by omega)];exact this
              have hz2:Ab (w'.setRow gh (Zn (blk (states mm t) Bk))) w.heap.size 38 (List.replicate 32 0):=by
                have:=hC.2.2.1;unfold Ab at this ⊢;rw[hO _ (by omega)];exact this
              have hw2:=OC hC.2.2.2 (by omega:w.heap.size<=gh) (Zn (blk (states mm t) Bk));have HH2:=Z8 hH2;have au8:=Z8 an7;have au9:=Z8 hz2;have HW2:=Z8 hw2;clear hH2 an7 hz2 hw2 hC hO hq8 an6 hs8;generalize w'.setRow gh (Zn (blk (states mm t) Bk))=V at *
              go_wp2_with fail;go_roundg (T-(t+1))
              case measure=>omega
              case rel=>exact⟨t+1,by omega,by rw[HNX.out]; rfl,by rw[HST.out]; exact HH2.out,au8.out,au9.out,HW2.out,rfl⟩
            · have htT:t=T:=(by omega);have hti:¬ ((64*t:Nat):Int)<(ml:Int):=(by have:=eH.out; omega);rw[htT] at hH;have HTO:=Z8 htT;clear htT hlt3 ht hgt;generalize 64*t=o at *
              have hsh:Hid (∀ i,i=32->outs (states mm T) i=Hu L):=Z8 (fun i hi=>by
                rw[hi];unfold Hu;rw[<- jU.out,O6.out,HTT.out])
              have hs8:=Ku mm T;generalize states mm T=H2 at *
              have HH:=Z8 hH;have HZ:=Z8 hz;have Um:=Z8 hbw;have hgh:=hH.lt;clear hH hz hbw hby;go_upto_region 15 with fail;have hA:Ab (wr.alloc (.cells (RH (List.replicate 32 0)) 38)) wr.heap.size 38 (outs H2 0++List.replicate (32-0) 0):=heap_alloc_last _ _;have hH4:=HH.out.alloc (.cells (RH (List.replicate 32 0)) 38);have hz4:=HZ.out.alloc (.cells (RH (List.replicate 32 0)) 38);have hb4:=Um.out.alloc Um.out.size (.cells (RH (List.replicate 32 0)) 38);have ay1:=Um.out.size;have hlz:=HZ.out.lt;change Code.wp _ _ _ _ (wr.alloc (.cells (RH (List.replicate 32 0)) 38));clear HH HZ Um;generalize wr.alloc (.cells (RH (List.replicate 32 0)) 38)=V at *
              generalize wr.heap.size=kb at *
              clear wr;go_wp2_with fail;go_loopg [52] 32 (fun g s52 wx=>∃ i:Nat,i<=32/\s52=Z9 i/\XM wx gh 176 H2/\Ab wx kb 38 (outs H2 i++List.replicate (32-i) 0)/\Ab wx w.heap.size 38 (List.replicate 32 0)/\Below w.heap.size w wx/\32-i=g)
              case atStart=>exact⟨0,by omega,by go_num,hH4,hA,hz4,hb4,rfl⟩
              case round=>
                clear hH4 hA hz4 hb4 V;obtain⟨i,hi,rfl,hH,hA,hz,hbw,hg4⟩:=hrel;by_cases hlt4:i<32
                · have hl:(outs H2 i++List.replicate (32-i) 0).length=32:=(by simp[Ot]; omega);have x0:=hH.cell (i / 4) (by omega);have xz:=hA.cell i (by omega);have xf:=hA.frozen i;have hset:=rZ H2 i hlt4;have HOB:Hid (MH H2 i=H2.getD (i / 4) 0 / 2 ^ (24-i % 4*8) % 256):=Z8 rfl;rw[HOB.out] at hset;have av1:=Z8 hset;have HH:=Z8 hH;have HA:=Z8 hA;have HZ:=Z8 hz;have Um:=Z8 hbw;clear hset hH hA hz hbw hl hs8 HOB;generalize H2.getD (i / 4) 0=h at *
                  generalize (outs H2 i++List.replicate (32-i) 0).getD i 0=z at *
                  have q1:(i:Int).tdiv 4=((i / 4:Nat):Int):=(by simp);have q2:((i / 4:Nat):Int)<8:=(by omega);have q3:IntKind.i64.wrap ((i / 4:Nat):Int)=((i / 4:Nat):Int):=(by rw[IntKind.wrap_i64]; omega);have hs:24-(i:Int) % 4*8=((24-i % 4*8:Nat):Int):=(by omega);have av2:24-i % 4*8<=32:=(by omega);generalize i / 4=k at *
                  generalize av3:24-i % 4*8=m at *
                  clear av3;have e1:=fun x=>an8 x m av2;go_wp2_with fail;have NA:=HA.out.set i (h / 2 ^ m % 256);rw[av1.out] at NA;go_roundg (32-(i+1))
                  case measure=>omega
                  case rel=>exact⟨i+1,by omega,by go_num,HH.out.far _ (by simp; omega) _,NA,HZ.out.far _ (by simp; omega) _,Um.out.setCell (by simp; omega) _,rfl⟩
                · have hsh2:outs H2 i++List.replicate (32-i) 0=Hu L:=by
                    rw[show 32-i=0 by omega,List.replicate_zero,List.append_nil];exact hsh.out i (by omega)
                  obtain⟨S,hS⟩:∃ S,S=Hu L:=⟨_,rfl⟩;have hl:S.length=32:=(by rw[hS]; exact Ot _ _);rw[hsh2,<- hS] at hA;have HSS:=Z8 hS;have HZ:=Z8 hz;have HA:=Z8 hA;have HW:=Z8 hbw;have HL:=Z8 hl;clear hz hA hbw hl hsh2 hS hH;go_upto_region 20 with fail;have jT:(RH S).size=32:=(by simp[HL.out]);apply wp_region_lit;apply wpList_load_row (ty:=38) (x:=.tmp 8) (g:=kb) (t:=38) (cs:=RH S) (fr:=(0,0)) (d:=.array 32 5)
                  case hgd=>rfl
                  case ho=>rfl
                  case hx=>kernel_rfl
                  case hg=>exact HA.out
                  case hu=>kernel_rfl
                  case hd=>rfl
                  case hi=>rw[jT]; kernel_rfl
                  apply Vb (ty:=38) (x:=.tmp 2) (y:=.tmp 68) (g:=w.heap.size) (c:=RH (List.replicate 32 0)) (c':=RH S)
                  case hgd=>rfl
                  case ho=>rfl
                  case hx=>kernel_rfl
                  case hy=>kernel_rfl
                  case hg=>exact HZ.out
                  case hi=>rw[jT]; kernel_rfl
                  case hz=>rw[jT]; rfl
                  case h1=>exact jS _
                  apply wpList_nil;go_wp2_with fail;refine bodyPost_ret (v:=.agg (RH S)) ?_ rfl ⟨by rw[HSS.out],OC HW.out (Nat.le_refl _) _⟩;refine results_cell_row (fn:=Tryz.f63) (p:=2) (ty:=38) rfl _ _ w.heap.size 38 (RH S) (0,0) (.array 32 5) rfl (setRow_heap _ _ _ _ _ _ HZ.out) ?_ rfl ?_
                  · kernel_rfl
                  · rw[jT]; kernel_rfl
def ZL (B:Nat)(S:Nat->Prop)(w w':World):Prop:=Below B w w'/\∀ k,k<w.heap.size->¬ S k->w'.heap[k]?=w.heap[k]?
theorem ZL.of_below {B:Nat}{S:Nat->Prop}{w w':World}(h:Below w.heap.size w w')(hB:B<=w.heap.size):ZL B S w w':=⟨h.mono hB,fun k hk _=>h.block k hk⟩
theorem Bx.U7 {w w':World}{k t B:Nat}{S:Nat->Prop}{cs:Array Value}(h:Bx w k cs t)(hb:ZL B S w w')(hn:¬ S k):Bx w' k cs t:=(hb.2 k h.lt hn).trans h
theorem Cs.U7 {w w':World}{B:Nat}{S:Nat->Prop}{a:Option Addr}{cs:List Value}(h:Cs w a cs)(hb:ZL B S w w')(hn:∀ x,a=some x->¬ S x.block):Cs w' a cs:=fun j v hj=>by
 obtain⟨b,off,e,hlt,hc⟩:=h j v hj;refine⟨b,off,e,Nat.lt_of_lt_of_le hlt hb.1.size,?_⟩;rw[<- hc];unfold World.cell?;rw[hb.2 b hlt (hn _ e)]
theorem ZL.refl (B:Nat)(S:Nat->Prop)(w:World):ZL B S w w:=⟨Below.refl _ _,fun _ _ _=>rfl⟩
theorem ZL.trans {B:Nat}{S S2:Nat->Prop}{a b c:World}(h:ZL B S a b)(k:ZL B S2 b c)(hs:∀ x,S2 x->S x∨a.heap.size<=x):ZL B S a c:=
 ⟨h.1.trans k.1,fun i hi hn=>(k.2 i (by have:=h.1.size; omega) (fun h2=>(hs i h2).elim hn (by omega))).trans (h.2 i hi hn)⟩
theorem ZL.trans' {B:Nat}{S:Nat->Prop}{a b c:World}(h:ZL B S a b)(k:ZL B S b c):ZL B S a c:=h.trans k fun _=>.inl
theorem ZL.setCell {B:Nat}{S:Nat->Prop}(w:World)(b o:Nat)(v:Value)(hB:B<=b)(hS:S b):ZL B S w (w.setCell ⟨b,o,none⟩ v):=
 ⟨(Below.refl B w).setCell hB v,fun k _ hn=>heap_setCell_other w _ k v (fun e=>hn (by rw[e]; exact hS))⟩
theorem VD {w:World}{B e s n c b:Nat}{xs:List Value}(h:w.ownsRow B e s (.slice (some ⟨b,0,none⟩) n c) n xs)(j:Nat)(v:Value)(hj:j<xs.length):(w.setCell ⟨b,j,none⟩ v).ownsRow B e s (.slice (some ⟨b,0,none⟩) n c) n (xs.set j v):=by
 have hlen:=h.1;rcases h.2 with⟨e0,-⟩ | ⟨g,cap,cur,e0,hb,hg,hn,hm,hc,ht⟩
 ·cases e0
 ·simp only[Value.slice.injEq,Option.some.injEq,Addr.mk.injEq,and_true,true_and] at e0;obtain⟨rfl,rfl⟩:=e0;refine⟨by simpa using hlen,.inr ⟨b,c,cur.setIfInBounds j v,rfl,hb,Joins.block_setCell hg v,hn,hm,by simpa using hc,?_⟩⟩;rw[Array.toList_setIfInBounds,List.take_set,ht]
theorem XK {w:World}{B e s n c b:Nat}{xs:List Value}(h:w.ownsRow B e s (.slice (some ⟨b,0,none⟩) n c) n xs):∃ cur,Bx w b cur e/\n*s<=cur.size/\B<=b/\cur.toList.take (n*s)=xs:=by
 rcases h.2 with⟨e0,-⟩ | ⟨g,cap,cur,e0,hb,hg,hn,hm,hc,ht⟩
 ·cases e0
 ·simp only[Value.slice.injEq,Option.some.injEq,Addr.mk.injEq,and_true,true_and] at e0;obtain⟨rfl,rfl⟩:=e0;exact⟨cur,hg,by rw[hc]; exact Nat.mul_le_mul_right _ hn,hb,ht⟩
theorem WX {w w':World}{B e s n c:Nat}{a:Option Addr}{xs:List Value}(h:w.ownsRow B e s (.slice a n c) n xs)(hs:∀ x,a=some x->w'.heap[x.block]?=w.heap[x.block]?):w'.ownsRow B e s (.slice a n c) n xs:=by
 refine⟨h.1,?_⟩;rcases h.2 with h0 | ⟨g,cap,cur,e0,hb,hg,r⟩
 ·exact .inl h0
 ·refine .inr ⟨g,cap,cur,e0,hb,?_,r⟩;simp only[Value.slice.injEq,true_and] at e0;rw[<- hg];exact hs _ e0.1
theorem ZL.sets {B b:Nat}{S:Nat->Prop}(hB:B<=b)(hS:S b):∀ (vs:List Value) (o:Nat) (w:World),ZL B S w (w.setCells b o vs)
 | [],o,w=>ZL.refl _ _ _
 | v::r,o,w=>(ZL.setCell w b o v hB hS).trans' (ZL.sets hB hS r (o+1) _)
theorem Yo {B e s n c b:Nat}:∀ (vs:List Value) (o:Nat) (w:World) (xs:List Value),w.ownsRow B e s (.slice (some ⟨b,0,none⟩) n c) n xs->o+vs.length<=xs.length->(w.setCells b o vs).ownsRow B e s (.slice (some ⟨b,0,none⟩) n c) n (xs.take o++vs++xs.drop (o+vs.length))
 | [],o,w,xs,h,_=>by simpa [World.setCells] using h
 | v::r,o,w,xs,h,hl=>by
  rw[List.length_cons] at hl;have h1:=Yo r (o+1) _ _ (VD h o v (by omega)) (by rw[List.length_set]; omega);rw[World.setCells];have e:(xs.set o v).take (o+1)++r++(xs.set o v).drop (o+1+r.length)=xs.take o++v::r++xs.drop (o+(v::r).length):=by
   rw[List.drop_set_of_lt (by omega),List.take_set,List.length_cons,show o+(r.length+1)=o+1+r.length by omega];have ho:o<xs.length:=(by omega);rw[List.take_add_one,List.getElem?_eq_getElem ho,Option.toList_some,List.set_append_right _ _ (by rw[List.length_take]; omega),List.length_take,Nat.min_eq_left (by omega),Nat.sub_self,List.set_cons_zero];simp
  rw[e] at h1;exact h1
theorem Hr {w:World}{P:Program}{t e s bytes:Nat}{v0:Value}(hu:P.underlying t=some (.slice e))(hinfo:(P.info? e).map (fun i=>(i.zero,i.size,i.bytes))=some (some v0,s,bytes))(hzs:v0.cells.size=s)(hs:0<s)(hby:bytes<=1000)
  {B n:Nat} {v:Value} {xs:List Value} (hO:w.ownsRow B e s v n xs) (b:Nat) (ys:List Value) (hP:Cs w (some ⟨b,0,none⟩) ys) (hl:ys.length=s) (h1:∀ u∈ys,u.oneCell'=true) (hB:B<=w.heap.size) (hn:n<=100000) :
  ∃ v' w',(Builtin.append_ #[t,t] t #[v,.slice (some ⟨b,0,none⟩) 1 1]).run P w=.ok v' w'/\w'.ownsRow B e s v' (n+1) (xs++ys)/\w.grownBy w' v.ownBlock/\(v'.ownBlock=v.ownBlock∨v'.ownBlock=some w.heap.size):=by
 obtain⟨i0,hi,hz0,hz1,hz2⟩:=info_parts hinfo;obtain⟨v',w',hr,h2,h3,-,h4⟩:=run_append_own_at (P:=P) w B t t e i0 v0 s bytes hu hi hz0 hz1 hz2 hzs hs v n xs hO ⟨b,0,none⟩ 1 1 ys (by omega) (fun j u hj=>by
  obtain⟨b2,off2,e2,-,hc⟩:=hP j u hj;simp only[Option.some.injEq,Addr.mk.injEq,and_true] at e2;obtain⟨rfl,rfl⟩:=e2;rw[Addr.add_mid];exact hc) h1 (by unfold maxLen; omega) (by have:=Nat.mul_le_mul (show n+1<=100001 by omega) hby; omega) hB
 exact⟨v',w',hr,h2,h3,h4⟩
section
variable {α : Type} (f : α -> List Value) {s : Nat}
theorem UG (hf:∀ x,(f x).length=s):∀ L:List α,(L.flatMap f).length=L.length*s
 | []=>by simp
 | x::r=>by
  rw[List.flatMap_cons,List.length_append,hf x,UG hf r,List.length_cons,Nat.add_mul]; omega
theorem UF (hf:∀ x,(f x).length=s)(z:α):∀ (L:List α) (i j:Nat),i<L.length->j<s->(L.flatMap f)[i*s+j]?=(f (L.getD i z))[j]?
 | [],i,j,h,_=>by simp at h
 | x::r,0,j,_,hj=>by
  rw[List.flatMap_cons,Nat.zero_mul,Nat.zero_add,List.getElem?_append_left (by rw[hf x]; exact hj)]; rfl
 | x::r,i+1,j,h,hj=>by
  rw[List.flatMap_cons,List.getElem?_append_right (by rw[hf x,Nat.add_mul]; omega),hf x,show(i+1)*s+j-s=i*s+j by rw[Nat.add_mul]; omega,UF hf z r i j (by simpa using h) hj]; rfl
theorem UO (hf:∀ x,(f x).length=s):∀ (L:List α) (k:Nat),(L.flatMap f).take (k*s)=(L.take k).flatMap f
 | [],k=>by simp
 | x::r,0=>by simp
 | x::r,k+1=>by
  rw[List.flatMap_cons,List.take_succ_cons,List.flatMap_cons,Nat.add_mul,Nat.one_mul,Nat.add_comm,<- hf x,List.take_append,List.take_of_length_le (by omega),hf x,Nat.add_sub_cancel_left,UO hf r k]
theorem Uh (hf:∀ x,(f x).length=s):∀ (L:List α) (k:Nat),(L.flatMap f).drop (k*s)=(L.drop k).flatMap f
 | [],k=>by simp
 | x::r,0=>by simp
 | x::r,k+1=>by
  rw[List.flatMap_cons,List.drop_succ_cons,Nat.add_mul,Nat.one_mul,Nat.add_comm,<- hf x,List.drop_append,List.drop_of_length_le (by omega),hf x,Nat.add_sub_cancel_left,Uh hf r k,List.nil_append]
theorem ab7 (A B:List α):(A++B).flatMap f=A.flatMap f++B.flatMap f:=List.flatMap_append
theorem jY (hf:∀ x,(f x).length=s)(z:α){L:List α}{i o:Nat}{y:α}{vs:List Value}(hi:i<L.length)(hy:(f (L.getD i z)).take o++vs++(f (L.getD i z)).drop (o+vs.length)=f y)(ho:o+vs.length<=s) :
  (L.flatMap f).take (i*s+o)++vs++(L.flatMap f).drop (i*s+o+vs.length)=(L.set i y).flatMap f:=by
 have e:L=L.take i++L.getD i z::L.drop (i+1):=by
  rw[getD_lt L i z hi,<- List.drop_eq_getElem_cons hi,List.take_append_drop]
 have h1:(L.take i).flatMap f=(L.flatMap f).take (i*s):=(UO f hf L i).symm;have hl:((L.take i).flatMap f).length=i*s:=by rw[UG f hf,List.length_take,Nat.min_eq_left (by omega)]
 have h3:(L.flatMap f)=(L.take i).flatMap f++(f (L.getD i z)++(L.drop (i+1)).flatMap f):=by
  conv=>lhs; rw[e]
  rw[List.flatMap_append,List.flatMap_cons]
 have hz:=hf (L.getD i z);rw[List.set_eq_take_append_cons_drop,if_pos hi,List.flatMap_append,List.flatMap_cons,<- hy,h3];rw[<- hl,Nat.add_assoc,List.take_length_add_append,List.drop_length_add_append,List.take_append_of_le_length (by omega),List.drop_append_of_le_length (by omega)];simp only[List.append_assoc]
theorem Yf {w:World}{a:Option Addr}(hf:∀ x,(f x).length=s)(hs:0<s)(z:α){L:List α}(h:Cs w a (L.flatMap f)){i:Nat}(hi:i<L.length):∃ b off,a=some ⟨b,off,none⟩/\b<w.heap.size/\w.rangeAt b (off+i*s) (f (L.getD i z)):=by
 have hz:=hf (L.getD i z);have h0:=UF f hf z L i 0 hi hs;rw[List.getElem?_eq_getElem (show 0<(f (L.getD i z)).length by omega)] at h0;obtain⟨b,off,rfl,hb,-⟩:=h _ _ h0;refine⟨b,off,rfl,hb,fun j v hj=>?_⟩;have hjs:j<s:=by have:=(List.getElem?_eq_some_iff.1 hj).1; omega
 obtain⟨b2,o2,e2,-,c2⟩:=h _ _ ((UF f hf z L i j hi hjs).trans hj);simp only[Option.some.injEq,Addr.mk.injEq,and_true] at e2;obtain⟨rfl,rfl⟩:=e2;rw[Nat.add_assoc];exact c2
theorem NV (h1:∀ x,∀ u∈f x,u.oneCell'=true)(L:List α):∀ u∈L.flatMap f,u.oneCell'=true:=fun u hu=>by
 obtain⟨x,-,hx⟩:=List.mem_flatMap.1 hu;exact h1 x u hx
theorem sK (hf:∀ x,(f x).length=s)(z:α){w:World}{B e g n c i o:Nat}{L:List α}(h:w.ownsRow B e s (.slice (some ⟨g,0,none⟩) n c) n (L.flatMap f))(hi:i<L.length){y:α}{vs:List Value}(ho:o+vs.length<=s)
  (hy:(f (L.getD i z)).take o++vs++(f (L.getD i z)).drop (o+vs.length)=f y):(w.setCells g (i*s+o) vs).ownsRow B e s (.slice (some ⟨g,0,none⟩) n c) n ((L.set i y).flatMap f):=by
 have h1:=Yo vs (i*s+o) w _ h (by
  rw[UG f hf];have:=Nat.mul_le_mul_right s (show i+1<=L.length from hi);rw[Nat.add_mul] at this; omega)
 rw[jY f hf z hi hy ho] at h1;exact h1
theorem yu (hf:∀ x,(f x).length=s){w:World}{B e g n c i o k:Nat}{L:List α}(h:w.ownsRow B e s (.slice (some ⟨g,0,none⟩) n c) n (L.flatMap f))(hn:n=L.length)(hi:i<L.length)(ho:o+k<=s):w.there g (i*s+o) k:=fun j hj=>by
 obtain⟨cur,hcur,hz,-,-⟩:=XK h;refine⟨?_,frozen_of_row w g _ _ e hcur⟩;have:=Nat.mul_le_mul_right s (show i+1<=L.length from hi);rw[Nat.add_mul,<- hn] at this;rw[cell_of_row w g _ _ e (0,0) hcur,Array.getElem?_eq_getElem (by omega)];rfl
end
theorem Vl {b:Nat}:∀ (vs:List Value) (o:Nat) (w:World),But b w (w.setCells b o vs)
 | [],o,w=>But.refl _ _
 | v::r,o,w=>(But.setCell w o v).trans (Vl r (o+1) _)
def Xk (L:List Int):List Value:=L.map (Value.int .u8)
theorem an1 {w:World}{a:Option Addr}{c:Nat}{L:List Int}(h:Sl w a c L):Cs w a (Xk L):=fun j v hj=>by
 unfold Xk at hj;rw[List.getElem?_map] at hj;cases hq:L[j]? with
 | none=>rw[hq] at hj; cases hj
 | some x=>
  rw[hq] at hj;have hl:=(List.getElem?_eq_some_iff.1 hq).1;obtain⟨b,off,e,hb,hc⟩:=sJ h hl;refine⟨b,off,e,hb,?_⟩;rw[hc,<- hj,List.getD_eq_getElem?_getD,hq];rfl
structure Ad where
 ra:Option Addr
 rc:Nat
 pa:Option Addr
 pc:Nat
def YE:Ad:=⟨none,0,none,0⟩
def JG (k:Nat->Int):List Value:=[.int .u8 (k 0),.int .u8 (k 1),.int .u8 (k 2),.int .u8 (k 3),.int .u8 (k 4),.int .u8 (k 5),.int .u8 (k 6),.int .u8 (k 7),.int .u8 (k 8),.int .u8 (k 9),.int .u8 (k 10),.int .u8 (k 11),.int .u8 (k 12),.int .u8 (k 13),.int .u8 (k 14),.int .u8 (k 15),.int .u8 (k 16),.int .u8 (k 17),.int .u8 (k 18),.int .u8 (k 19),.int .u8 (k 20),.int .u8 (k 21),.int .u8 (k 22),.int .u8 (k 23),.int .u8 (k 24),.int .u8 (k 25),.int .u8 (k 26),.int .u8 (k 27),.int .u8 (k 28),.int .u8 (k 29),.int .u8 (k 30),.int .u8 (k 31)]
def Zv (k:Nat->Int):Array Value:=(JG k).toArray
def Yc (e:En)(d:Ad):List Value:=JG e.k++[.slice d.ra e.raw.length d.rc,.string e.snd,ZV e.sq,ZV e.gas,ZV e.pri,Z9 e.ht,Z9 e.tm,Z9 e.od,.slice d.pa e.Xe.length d.pc]
def ZO (e:En)(d:Ad):Array Value:=(Yc e d).toArray
structure Sn where
 e:En
 d:Ad
 full:Bool
 us:Int
 nx:Int
def Xx:Sn:=⟨Zp,YE,false,0,0⟩
def Qp (x:Sn):List Value:=Yc x.e x.d++[.bool x.full,Z9 x.us,Z9 x.nx]
def Ce (x:Sn):Array Value:=(Qp x).toArray
theorem Cc (x:Sn):(Qp x).length=44:=rfl
theorem Sv (e:En)(d:Ad):∀ u∈Yc e d,u.oneCell'=true:=List.all_eq_true.1 (show(Yc e d).all (·.oneCell')=true by kernel_rfl)
theorem jX (x:Sn):∀ u∈Qp x,u.oneCell'=true:=List.all_eq_true.1 (show(Qp x).all (·.oneCell')=true by kernel_rfl)
theorem ZN {w:World}{b o j:Nat}{cs:List Value}{v:Value}{ty:TypeId}(h:w.rangeAt b o cs)(hv:cs[j]?=some v)(hag:(isAgg ty).run Tryz.prog w=.ok false w):(Instr.loadAt ty (Z7 b (o+j))).run Tryz.prog w=.ok v w:=XH (h j v hv) hag
theorem ZE {w:World}{b o:Nat}{e:En}{d:Ad}(h:w.rangeAt b o (Yc e d)):(Instr.loadAt 52 (Z7 b o)).run Tryz.prog w=.ok (.agg (ZO e d)) w:=
 run_loadAt_mid w b o 52 (Yc e d) _ h Tryz.underlying52 rfl (by kernel_rfl)
theorem Yw {w:World}{b o:Nat}{e:En}{d:Ad}(h:w.rangeAt b o (Yc e d)):(Instr.loadAt 38 (Z7 b o)).run Tryz.prog w=.ok (.agg (Zv e.k)) w:=
 run_loadAt_mid w b o 38 (JG e.k) _ (fun j v hj=>h j v (by unfold Yc; rw[List.getElem?_append_left (List.getElem?_eq_some_iff.1 hj).1]; exact hj)) Tryz.underlying38 rfl (by kernel_rfl)
theorem ZU {w:World}{g t:Nat}{cs:List Value}(h:Bx w g cs.toArray t):w.rangeAt g 0 cs:=fun j v hv=>by
 rw[cell_of_row w g _ _ _ (0,0) h];simpa using hv
theorem an2 {w:World}{b o:Nat}{x:Sn}(h:w.rangeAt b o (Qp x)):w.rangeAt b o (Yc x.e x.d):=fun j v hv=>h j v (by unfold Qp; rw[List.getElem?_append_left (List.getElem?_eq_some_iff.1 hv).1]; exact hv)
def rb (a:Option Addr){α:Type}(L:List α)(k:Nat):Prop:=L≠[]/\∃ x,a=some x/\x.block=k
def EB (e:En)(d:Ad)(k:Nat):Prop:=rb d.ra e.raw k∨rb d.pa e.Xe k
structure Vh (w:World)(e:En)(d:Ad):Prop where
 r:Sl w d.ra d.rc e.raw
 p:Cs w d.pa (ZJ e.Xe)
 rl:e.raw.length<=d.rc
 pl:e.Xe.length<=d.pc
theorem Vh.z (w:World):Vh w Zp YE:=⟨.inl ⟨rfl,rfl,rfl⟩,Cs.nil _ _,Nat.le_refl 0,Nat.le_refl 0⟩
theorem EB.z {k:Nat}(h:EB Zp YE k):False:=h.elim (fun h=>h.1 rfl) fun h=>h.1 rfl
theorem Vh.lt {w:World}{e:En}{d:Ad}(h:Vh w e d):∀ k,EB e d k->k<w.heap.size:=fun k hk=>by
 rcases hk with⟨hn,x,hx,rfl⟩ | ⟨hn,x,hx,rfl⟩
 ·obtain⟨b,off,e2,hb,-⟩:=sJ h.r (List.length_pos_iff.2 hn);rw[hx] at e2; cases e2; exact hb
 ·obtain⟨b,off,e2,hb,-⟩:=PU h.p (List.length_pos_iff.2 hn);rw[hx] at e2; cases e2; exact hb
theorem Vh.same {w w':World}{e:En}{d:Ad}(h:Vh w e d)(hs:∀ k,EB e d k->w'.heap[k]?=w.heap[k]?):Vh w' e d:=by
 refine⟨?_,?_,h.rl,h.pl⟩
 ·rcases h.r with h0 | ⟨x,hx,hc⟩
  ·exact .inl h0
  ·refine .inr ⟨x,hx,fun k hk=>?_⟩;obtain⟨b,off,rfl,hc2⟩:=hc k hk;refine⟨b,off,rfl,?_⟩;rw[<- hc2];unfold World.cell?;rw[hs b (.inl ⟨fun e=>by rw[e] at hk; simp at hk,_,hx,rfl⟩)]
 ·intro j v hj;obtain⟨b,off,e2,hb,hc⟩:=h.p j v hj;have hne:e.Xe≠[]:=fun q=>by rw[q] at hj; simp[ZJ] at hj
  have hb2:=hs b (.inr ⟨hne,_,e2,rfl⟩);refine⟨b,off,e2,?_,?_⟩
  ·have h1:w.heap[b]?=some w.heap[b]:=Array.getElem?_eq_getElem hb;rw[h1] at hb2;exact(Array.getElem?_eq_some_iff.1 hb2).1
  ·rw[<- hc];unfold World.cell?;rw[hb2]
theorem Vh.below {w w':World}{e:En}{d:Ad}(h:Vh w e d)(hb:Below w.heap.size w w'):Vh w' e d:=h.same fun k hk=>hb.block k (h.lt k hk)
theorem Vh.but {w w':World}{e:En}{d:Ad}{g:Nat}(h:Vh w e d)(hb:But g w w')(hn:¬ EB e d g):Vh w' e d:=h.same fun k hk=>hb.2 k (h.lt k hk) fun e2=>hn (e2 ▸ hk)
theorem Vh.U7 {w w':World}{e:En}{d:Ad}{B:Nat}{S:Nat->Prop}(h:Vh w e d)(hb:ZL B S w w')(hn:∀ k,EB e d k->¬ S k):Vh w' e d:=h.same fun k hk=>hb.2 k (h.lt k hk) (hn k hk)
theorem Ov {w w':World}{a:Option Addr}{cs:List Value}(h:Cs w a cs)(hs:∀ k,rb a cs k->w'.heap[k]?=w.heap[k]?):Cs w' a cs:=fun j v hj=>by
 obtain⟨b,off,e2,hb,hc⟩:=h j v hj;have hne:cs≠[]:=fun q=>by rw[q] at hj; simp at hj
 have hb2:=hs b ⟨hne,_,e2,rfl⟩;refine⟨b,off,e2,?_,?_⟩
 ·have h1:w.heap[b]?=some w.heap[b]:=Array.getElem?_eq_getElem hb;rw[h1] at hb2;exact(Array.getElem?_eq_some_iff.1 hb2).1
 ·rw[<- hc];unfold World.cell?;rw[hb2]
theorem Cj {w:World}{a:Option Addr}{cs:List Value}(h:Cs w a cs):∀ k,rb a cs k->k<w.heap.size:=fun k ⟨hne,x,hx,e⟩=>by
 obtain⟨b,off,e2,hb,-⟩:=h 0 (cs[0]'(List.length_pos_iff.2 hne)) (List.getElem?_eq_getElem _);rw[hx] at e2; cases e2; rw[<- e]; exact hb
theorem Po (b off n c k:Nat)(hk:k<n)(V:World)(ρ:Operand->Value)(o:Oper){x y:Operand}(ho:o.op=.indexAddr 145 x y)(hx:ρ x=.slice (some ⟨b,off,none⟩) n c)(hy:ρ y=Z9 k):(execOp ρ o).run Tryz.prog V=.ok (.value (Z7 b (off+k*44))) V:=by
 have hs:(sizeOf (Tryz.prog.elem 145)).run Tryz.prog V=.ok 44 V:=by kernel_rfl
 have hlm:(k:Int)<(n:Int):=by omega
 unfold execOp;simp only[ho,hx,hy];go_simp
theorem ab3 (b off n c k:Nat)(hk:k<n)(V:World)(ρ:Operand->Value)(o:Oper){x y:Operand}(ho:o.op=.indexAddr 50 x y)(hx:ρ x=.slice (some ⟨b,off,none⟩) n c)(hy:ρ y=Z9 k):(execOp ρ o).run Tryz.prog V=.ok (.value (Z7 b (off+k))) V:=by
 have hs:(sizeOf (Tryz.prog.elem 50)).run Tryz.prog V=.ok 1 V:=by kernel_rfl
 have hlm:(k:Int)<(n:Int):=by omega
 unfold execOp;simp only[ho,hx,hy];go_simp
theorem sH:(Tryz.prog.info? 144).map (fun i=>(i.zero,i.size,i.bytes))=some (some (.agg (Ce Xx)),44,168):=by kernel_rfl
theorem sG (x:Sn)(V:World):(Instr.buildSlice 145 1 #[(0,.agg (Ce x))]).run Tryz.prog V=.ok (.slice (some ⟨V.heap.size,0,none⟩) 1 1) (V.alloc (.cells (Ce x) 144)):=by
 obtain⟨i0,hi,hz0,hz1,hz2⟩:=info_parts sH;refine run_buildSlice V 145 144 1 _ (Ce x) i0 _ Tryz.underlying145 hi hz0 (by rw[hz1]; omega) (by rw[hz1]; omega) ?_;rw[hz1];kernel_rfl
def hnl (h:Int×Int):List Value:=[Z9 h.1,Z9 h.2]
abbrev hnA (h:Int×Int):Array Value:=#[Z9 h.1,Z9 h.2]
def hcs (L:List (Int×Int)):List Value:=L.flatMap hnl
theorem Uj {w:World}{b o:Nat}{x:Int×Int}(h:w.rangeAt b o (hnl x)):(Instr.loadAt 104 (Z7 b o)).run Tryz.prog w=.ok (.agg (hnA x)) w:=
 run_loadAt_mid w b o 104 (hnl x) _ h Tryz.underlying104 rfl (by kernel_rfl)
theorem YV {fn:Func}{tmps:Array Value}{w:World}{p g ty:Nat}{v:Value}(hr:fn.results=#[.cell p ty])(h2:tmps.getD p undef=Z7 g 0)(hl:(Instr.loadAt ty (Z7 g 0)).run Tryz.prog w=.ok v w):(results fn tmps).run Tryz.prog w=.ok v w:=by
 unfold results;rw[hr];have h2':tmps[p]?.getD undef=Z7 g 0:=by simpa using h2
 have hl':=hl;simp only[Instr.loadAt,Instr.sureAddr,Sem.run_bind,Sem.run_pure,Result.andThen_ok] at hl';simp[h2',asAddr,hl',Result.andThen]
theorem Yh {fn:Func}{tmps:Array Value}{w:World}{p q g ty:Nat}{v u:Value}(hr:fn.results=#[.cell p ty,.tmp q])(h2:tmps.getD p undef=Z7 g 0)(hl:(Instr.loadAt ty (Z7 g 0)).run Tryz.prog w=.ok v w)(h3:tmps.getD q undef=u):(results fn tmps).run Tryz.prog w=.ok (.tuple #[v,u]) w:=by
 unfold results;rw[hr];have h2':tmps[p]?.getD undef=Z7 g 0:=by simpa using h2
 have h3':tmps[q]?.getD undef=u:=by simpa using h3
 have hl':=hl;simp only[Instr.loadAt,Instr.sureAddr,Sem.run_bind,Sem.run_pure,Result.andThen_ok] at hl';simp[h2',h3',asAddr,hl',Result.andThen]
theorem DC {fn:Func}{tmps:Array Value}{w:World}{p q ty g r:Nat}{v u:Value}(hr:fn.results=#[.tmp q,.cell p ty,.tmp r])(u2:Value)(h2:tmps.getD p undef=Z7 g 0)(hl:(Instr.loadAt ty (Z7 g 0)).run Tryz.prog w=.ok v w)(h4:tmps.getD q undef=u2)(h5:tmps.getD r undef=u):(results fn tmps).run Tryz.prog w=.ok (.tuple #[u2,v,u]) w:=by
 unfold results;rw[hr];have h2':tmps[p]?.getD undef=Z7 g 0:=by simpa using h2
 have h4':tmps[q]?.getD undef=u2:=by simpa using h4
 have h5':tmps[r]?.getD undef=u:=by simpa using h5
 have hl':=hl;simp only[Instr.loadAt,Instr.sureAddr,Sem.run_bind,Sem.run_pure,Result.andThen_ok] at hl';simp[h2',h4',h5',asAddr,hl',Result.andThen]
section
variable {ρ : Operand -> Value} {o : Oper} {x y : Operand}
theorem Va (ho:o.op=.binOp .geq 3 x y 3)(a b:Int){t:Bool}(ht:decide (b<=a)=t)(hx:ρ x=Z9 a)(hy:ρ y=Z9 b)(w:World):(execOp ρ o).run Tryz.prog w=.ok (.value (.bool t)) w:=by
 rw[<- ht];unfold execOp;simp only[ho,hx,hy];go_simp
theorem ZG (ho:o.op=.binOp .lss 3 x y 3)(a b:Int){t:Bool}(ht:decide (a<b)=t)(hx:ρ x=Z9 a)(hy:ρ y=Z9 b)(w:World):(execOp ρ o).run Tryz.prog w=.ok (.value (.bool t)) w:=by
 rw[<- ht];unfold execOp;simp only[ho,hx,hy];go_simp
end
theorem YO {ρ:Operand->Value}{o:Oper}{x y:Operand}(ho:o.op=.binOp .gtr 3 x y 3)(a b:Int){t:Bool}(ht:decide (b<a)=t)(hx:ρ x=Z9 a)(hy:ρ y=Z9 b)(w:World):(execOp ρ o).run Tryz.prog w=.ok (.value (.bool t)) w:=by
 rw[<- ht];unfold execOp;simp only[ho,hx,hy];go_simp
theorem XY {ρ:Operand->Value}{o:Oper}{x y:Operand}(ho:o.op=.binOp .eql 3 x y 3)(a b:Int){t:Bool}(ht:decide (a=b)=t)(hx:ρ x=Z9 a)(hy:ρ y=Z9 b)(w:World):(execOp ρ o).run Tryz.prog w=.ok (.value (.bool t)) w:=by
 have e:(a == b)=t:=ht;unfold execOp;simp only[ho,hx,hy];go_simp
theorem Ak {ρ:Operand->Value}{o:Oper}{x y:Operand}(ho:o.op=.binOp .eql 9 x y 9)(a b:ByteArray){t:Bool}(ht:(a == b)=t)(hx:ρ x=.string a)(hy:ρ y=.string b)(w:World):(execOp ρ o).run Tryz.prog w=.ok (.value (.bool t)) w:=by
 have e:(a.toList == b.toList)=t:=by rw[<- beq_toListBytes]; exact ht
 unfold execOp;simp only[ho,hx,hy];go_simp
section
variable {ρ : Operand -> Value} {o : Oper} {x y : Operand}
theorem VQ (ho:o.op=.binOp .neq 3 x y 3)(a b:Int){t:Bool}(ht:decide (a≠b)=t)(hx:ρ x=Z9 a)(hy:ρ y=Z9 b)(w:World):(execOp ρ o).run Tryz.prog w=.ok (.value (.bool t)) w:=by
 have e:(a != b)=t:=by rw[<- ht]; by_cases h:a=b <;> simp[h]
 unfold execOp;simp only[ho,hx,hy];go_simp
theorem Uo (ho:o.op=.binOp .eql 23 x y 23)(a b:Int){t:Bool}(ht:decide (a=b)=t)(hx:ρ x=ZV a)(hy:ρ y=ZV b)(w:World):(execOp ρ o).run Tryz.prog w=.ok (.value (.bool t)) w:=by
 have e:(a == b)=t:=ht;unfold execOp;simp only[ho,hx,hy];go_simp
theorem W9 (ho:o.op=.binOp .add 3 x y 3)(a b:Int)(h:-1000000000000<=a+b/\a+b<=1000000000000)(hx:ρ x=Z9 a)(hy:ρ y=Z9 b)(w:World):(execOp ρ o).run Tryz.prog w=.ok (.value (Z9 (a+b))) w:=by
 have hw:IntKind.i64.wrap (a+b)=a+b:=by rw[IntKind.wrap_i64]; omega
 unfold execOp;simp only[ho,hx,hy];go_simp
theorem Tv (ho:o.op=.binOp .sub 3 x y 3)(a b:Int)(h:-1000000000000<=a-b/\a-b<=1000000000000)(hx:ρ x=Z9 a)(hy:ρ y=Z9 b)(w:World):(execOp ρ o).run Tryz.prog w=.ok (.value (Z9 (a-b))) w:=by
 have hw:IntKind.i64.wrap (a-b)=a-b:=by rw[IntKind.wrap_i64]; omega
 unfold execOp;simp only[ho,hx,hy];go_simp
theorem Ug (ho:o.op=.convert 3 23 x)(a:Int)(h0:0<=a)(h1:a<=1000000)(hx:ρ x=Z9 a)(w:World):(execOp ρ o).run Tryz.prog w=.ok (.value (ZV a)) w:=by
 have hw:IntKind.u64.wrap a=a:=by rw[IntKind.wrap_u64]; omega
 unfold execOp;simp only[ho,hx];go_simp
theorem IV (ho:o.op=.convert 3 5 x)(a:Nat)(h:a<=255)(hx:ρ x=Z9 a)(w:World):(execOp ρ o).run Tryz.prog w=.ok (.value (.int .u8 a)) w:=by
 have hw:IntKind.u8.wrap (a:Int)=a:=by rw[IntKind.wrap_u8]; omega
 unfold execOp;simp only[ho,hx];go_simp
end
end Go.Proofs.YtnelmomagdcmnaaGreat
namespace Go.Proofs.YtnelmomagdcmnaaGreat
attribute [local irreducible] wpList wpQuiet
open Go.RowKit
theorem Xo {w:World}{g t i:Nat}{cs:Array Value}(cs':Array Value){v:Value}{ty:TypeId}(h:Bx w g cs t)(hi:i<cs.size)(hc:cs.setIfInBounds i v=cs')(h1:v.oneCell'=true)(hs:(Tryz.prog.info? ty).map (·.size)=some 1):∃ V2,(Instr.storeAt ty (Z7 g i) v).run Tryz.prog w=.ok () V2/\Bx V2 g cs' t/\But g w V2:=
 ⟨_,YT h hi h1 hs,by rw[<- hc]; exact h.Gs v,But.setCell w i v⟩
theorem st_all {w:World}{g t:Nat}{cs cs':Array Value}{ty:TypeId}(h:Bx w g cs t)(hz:cs.size=cs'.size)(h1:cs'.all (·.oneCell')=true)(hs:(Tryz.prog.info? ty).map (·.size)=some cs'.size):∃ V2,(Instr.storeAt ty (Z7 g 0) (.agg cs')).run Tryz.prog w=.ok () V2/\Bx V2 g cs' t/\But g w V2:=
 ⟨_,VE h hz h1 hs,h.set,But.setRow w cs'⟩
theorem YW (e:En)(d:Ad):(ZO e d).all (·.oneCell')=true:=by kernel_rfl
structure Ws (w:World)(B:Nat)(e:En)(d:Ad):Prop where
 r:w.ownsRow B 5 1 (.slice d.ra e.raw.length d.rc) e.raw.length (Xk e.raw)
 p:w.ownsRow B 3 1 (.slice d.pa e.Xe.length d.pc) e.Xe.length (ZJ e.Xe)
theorem Ws.i {w:World}{B:Nat}{e:En}{d:Ad}(h:Ws w B e d):Vh w e d:=by
 obtain⟨a,c,e1,h1,-,h2⟩:=Ci (n:=e.raw.length) h.r;obtain⟨a2,c2,e2,h3,h4⟩:=Yy h.p;simp only[Value.slice.injEq,true_and] at e1 e2;obtain⟨e1a,e1b⟩:=e1;obtain⟨e2a,e2b⟩:=e2;refine⟨?_,?_,?_,?_⟩
 ·rw[e1a,e1b]; exact h1
 ·rw[e2a]; exact h3
 ·rw[e1b]; exact h2
 ·rw[e2b]; exact h4
theorem Ws.ge {w:World}{B:Nat}{e:En}{d:Ad}(h:Ws w B e d):∀ k,EB e d k->B<=k:=fun k hk=>by
 rcases hk with⟨-,x,hx,rfl⟩ | ⟨-,x,hx,rfl⟩
 ·exact(h.r.lt x.block (by rw[hx]; rfl)).1
 ·exact(h.p.lt x.block (by rw[hx]; rfl)).1
theorem Ws.below {w w':World}{B:Nat}{e:En}{d:Ad}(h:Ws w B e d)(hb:Below w.heap.size w w'):Ws w' B e d:=⟨own_below h.r hb,own_below h.p hb⟩
theorem YG {w w':World}{g B e size n c:Nat}{a:Option Addr}{xs:List Value}(h:w.ownsRow B e size (.slice a n c) n xs)(hb:But g w w')(hn:∀ x,a=some x->x.block≠g):w'.ownsRow B e size (.slice a n c) n xs:=WX h fun x hx=>hb.2 _ (h.lt x.block (by rw[hx]; rfl)).2 (hn x hx)
def ApO (w:World)(E:En)(e:Ending)(w':World):Prop:=∃ d',e=.returned (.agg (ZO E d'))/\Ws w' w.heap.size E d'/\Below w.heap.size w w'
theorem ab5 {w:World}{a:Option Addr}{c:Nat}{L:List Int}(h:Sl w a c L)(hl:L.length<=100000):∃ a2 c2 V,(Builtin.append_ #[50,50] 50 #[.slice none 0 0,.slice a L.length c]).run Tryz.prog w=.ok (.slice a2 L.length c2) V/\V.ownsRow w.heap.size 5 1 (.slice a2 L.length c2) L.length (Xk L)/\Below w.heap.size w V:=by
 obtain⟨v,V,h1,h2,h3,-⟩:=Qx (P:=Tryz.prog) (t:=50) (m:=L.length) (B:=w.heap.size) (by kernel_rfl) info5 (by kernel_rfl) (by omega) (by omega) (World.ownsRow_nil _ _ _ _) a c (Xk L) (an1 h) (by simp[Xk]) (fun u hu=>by
  obtain⟨x,-,rfl⟩:=List.mem_map.1 hu;rfl) (Nat.le_refl _) (Nat.zero_le _) hl
 rw[Nat.zero_add,List.nil_append] at h2;obtain⟨a2,c2,rfl,-,-⟩:=Yy h2;exact⟨a2,c2,V,h1,h2,h3⟩
theorem ab6 {w:World}{a:Option Addr}{c:Nat}{L:List Int}(h:Cs w a (ZJ L))(hl:L.length<=100000):∃ a2 c2 V,(Builtin.append_ #[22,22] 22 #[.slice none 0 0,.slice a L.length c]).run Tryz.prog w=.ok (.slice a2 L.length c2) V/\V.ownsRow w.heap.size 3 1 (.slice a2 L.length c2) L.length (ZJ L)/\Below w.heap.size w V:=by
 obtain⟨v,V,h1,h2,h3,-⟩:=Qx (P:=Tryz.prog) (t:=22) (m:=L.length) (B:=w.heap.size) (by kernel_rfl) OB (by kernel_rfl) (by omega) (by omega) (World.ownsRow_nil _ _ _ _) a c (ZJ L) h (by simp[ZJ]) (SA L) (Nat.le_refl _) (Nat.zero_le _) hl;rw[Nat.zero_add,List.nil_append] at h2;obtain⟨a2,c2,rfl,-,-⟩:=Yy h2;exact⟨a2,c2,V,h1,h2,h3⟩
theorem Zk {c c':Array Value}{ty:TypeId}(w:World)(hz:c.size=c'.size)(h1:c'.all (·.oneCell')=true)(hs:(Tryz.prog.info? ty).map (·.size)=some c'.size):∃ V,(Instr.storeAt ty (Z7 w.heap.size 0) (.agg c')).run Tryz.prog (w.alloc (.cells c ty))=.ok () V/\Below w.heap.size w V/\Bx V w.heap.size c' ty:=by
 obtain⟨V,hst,hX,hbt⟩:=st_all (cs':=c') (ty:=ty) (heap_alloc_last w (.cells c ty):Bx _ _ c ty) hz h1 hs;exact⟨V,hst,((Below.refl _ w).alloc (Nat.le_refl _) _).trans hbt.1,hX⟩
theorem kF {P:Program}{ops:Array Oper}{rest:List Oper}{o:Oper}{a:Act}{w:World}{Q:Exit->Act->World->Prop}(hw:Region.wanted o (yielded ops a.tmps)=true)(d:Option Tmp)(hd:o.dst=d)(t:TypeId)(x y:Operand)(ho:o.op=.makeSlice t x y)
  (vx vy v:Value) (hx:a.eval x=vx) (hy:a.eval y=vy) (w2:World) (hr:(Instr.makeSlice t vx vy).run P w=.ok v w2) (k:wpList P ops Q rest (a.put d v) w2):wpList P ops Q (o::rest) a w:=by
 refine Vd hw d hd v w2 ?_ k;unfold execOp;simp only[ho,hx,hy,Sem.run_bind,hr];rfl
theorem O7 {a b:Bool}(h:a=true->b=true)(hb:b=false):a=false:=by
 cases a with
 | false=>rfl
 | true=>rw[h rfl] at hb; cases hb
theorem Ah {ρ:Operand->Value}{o:Oper}{x y:Operand}(ho:o.op=.binOp .sub 3 x y 3)(n:Nat)(h:0<n)(h2:n<=1000000)(hx:ρ x=Z9 n)(hy:ρ y=Z9 1)(w:World):(execOp ρ o).run Tryz.prog w=.ok (.value (Z9 ((n-1:Nat):Int))) w:=by
 have:=Tv ho n 1 (by omega) hx hy w;rwa [show(n:Int)-1=((n-1:Nat):Int) by omega] at this
theorem Ag (e:En)(d:Ad)(w:World)(hI:Vh w e d)(hB:II e):Calls Tryz.prog 81 #[.agg (ZO e d)] w (ApO w e):=by
 have hb1:Below w.heap.size w (w.alloc (.cells (ZO e d) 52)):=(Below.refl _ w).alloc (Nat.le_refl _) _;have hX1:Bx (w.alloc (.cells (ZO e d) 52)) w.heap.size (ZO e d) 52:=heap_alloc_last w _;have hsz1:(w.alloc (.cells (ZO e d) 52)).heap.size=w.heap.size+1:=by simp
 go_enter Tryz.func81,Tryz.ntmps81;go_upto_region 1 with fail;change Code.wp _ _ _ _ ((w.alloc (.cells (ZO e d) 52)).alloc (.cells (ZO Zp YE) 52));generalize w.alloc (.cells (ZO e d) 52)=W1 at *
 have hb0:Below w.heap.size w (W1.alloc (.cells (ZO Zp YE) 52)):=hb1.alloc hb1.size _;have hX0:Bx (W1.alloc (.cells (ZO Zp YE) 52)) w.heap.size (ZO e d) 52:=hX1.below hX1.lt ((Below.refl _ W1).alloc (Nat.le_refl _) _);have hY0:Bx (W1.alloc (.cells (ZO Zp YE) 52)) W1.heap.size (ZO Zp YE) 52:=heap_alloc_last W1 _;rw[hsz1] at hY0;generalize W1.alloc (.cells (ZO Zp YE) 52)=W at *
 obtain⟨g1,hg1⟩:=ZR w.heap.size;obtain⟨g2,hg2⟩:=ZR (w.heap.size+1);have HG:Hid (w.heap.size<=g1/\w.heap.size<=g2/\g1≠g2/\g1<W.heap.size/\g2<W.heap.size):=Z8 ⟨by omega,by omega,by omega,by rw[<- hg1]; exact hX0.lt,by rw[<- hg2]; exact hY0.lt⟩;rw[hg2] at hY0;rw[hg1] at hX0;rw[hg2,hg1];have hIW:=hI.below hb0;have HB:=Z8 hb0;have HN:=Z8 hB;obtain⟨a2,c2,V1,au3,hr1,hb2⟩:=ab5 hIW.r (by have:=HN.out.1; omega);have gI:=hY0.below hY0.lt hb2;obtain⟨V2,hst1,hX2,VO⟩:=Xo (i:=32) (ty:=50) (v:=.slice a2 e.raw.length c2) (ZO e { d with ra:=a2,rc:=c2 }) (hX0.below hX0.lt hb2) (by show 32<41; decide) (by kernel_rfl) rfl (by kernel_rfl);have hY2:=gI.but VO HG.out.2.2.1.symm;have hp2:=(hIW.below hb2).p;have hp3:Cs V2 d.pa (ZJ e.Xe):=Ov hp2 fun k hk=>VO.2 k (Cj hp2 k hk) fun e2=>by
  have h1:=Cj hI.p k hk;have h2:=HG.out.1;omega
 obtain⟨a3,c3,V3,au4,hr2,hb3⟩:=ab6 (c:=d.pc) hp3 (by have:=HN.out.2; omega);obtain⟨V4,hst2,Xu,WZ⟩:=Xo (i:=40) (ty:=22) (v:=.slice a3 e.Xe.length c3) (ZO e ⟨a2,c2,a3,c3⟩) (hX2.below hX2.lt hb3) (by show 40<41; decide) (by kernel_rfl) rfl (by kernel_rfl);have hY4:=(hY2.below hY2.lt hb3).but WZ HG.out.2.2.1.symm;obtain⟨V5,hst3,aO,Ya⟩:=st_all (cs':=ZO e ⟨a2,c2,a3,c3⟩) (ty:=52) hY4 rfl (YW _ _) (by kernel_rfl);have hw1:W.heap.size<=V1.heap.size:=hb2.size;have hw2:V1.heap.size<=V2.heap.size:=VO.1.size;have hw3:V2.heap.size<=V3.heap.size:=hb3.size;have hw4:V3.heap.size<=V4.heap.size:=WZ.1.size;have yw:V5.ownsRow w.heap.size 5 1 (.slice a2 e.raw.length c2) e.raw.length (Xk e.raw):=by
  have q1:=YG hr1 VO fun x hx=>by have:=(hr1.lt x.block (by rw[hx]; rfl)).1; have:=HG.out.2.2.2.1; omega
  have q2:=own_below q1 hb3;have q3:=YG q2 WZ fun x hx=>by have:=(hr1.lt x.block (by rw[hx]; rfl)).1; have:=HG.out.2.2.2.1; omega
  have q4:=YG q3 Ya fun x hx=>by have:=(hr1.lt x.block (by rw[hx]; rfl)).1; have:=HG.out.2.2.2.2; omega
  exact own_base q4 (by have:=HG.out; omega)
 have hP5:V5.ownsRow w.heap.size 3 1 (.slice a3 e.Xe.length c3) e.Xe.length (ZJ e.Xe):=by
  have q3:=YG hr2 WZ fun x hx=>by have:=(hr2.lt x.block (by rw[hx]; rfl)).1; have:=HG.out.2.2.2.1; omega
  have q4:=YG q3 Ya fun x hx=>by have:=(hr2.lt x.block (by rw[hx]; rfl)).1; have:=HG.out.2.2.2.2; omega
  exact own_base q4 (by have:=HG.out; omega)
 have hbz:Below w.heap.size w V5:=((((HB.out.trans (hb2.mono HB.out.size)).trans (VO.1.mono HG.out.1)).trans (hb3.mono (by have:=HB.out.size; omega))).trans (WZ.1.mono HG.out.1)).trans (Ya.1.mono HG.out.2.1);have HE:Hid (ApO w e (.returned (.agg (ZO e ⟨a2,c2,a3,c3⟩))) V5):=Z8 ⟨_,rfl,⟨yw,hP5⟩,hbz⟩;clear hb0 hb1 hX1 hsz1 hg1 hg2 hIW hI hb2 gI hY0 VO hY2 hp2 hp3 hb3 WZ hY4 Ya yw hP5 hbz hr1 hr2 hw1 hw2 hw3 hw4 hB;refine wl<|ZQ (Z7 g1 32)<|ZC rfl ⟨g1,32,none⟩ (.slice d.ra e.raw.length d.rc) (ZN (ZU hX0) (j:=32) rfl (by kernel_rfl)) ?_;refine YU rfl (some 5) rfl 50 rfl (.const (.slice none 0 0)) (.tmp 4) 50 rfl (.slice none 0 0) (.slice d.ra e.raw.length d.rc) (.slice a2 e.raw.length c2) V1 (by kernel_rfl) (by kernel_rfl) au3 ?_;refine ZQ (Z7 g1 32)<|Yb rfl (hst1)<|wn ?_;simp only[pu];go_upto_region 2 with fail;refine wl<|ZQ (Z7 g1 40)<|ZC rfl ⟨g1,40,none⟩ (.slice d.pa e.Xe.length d.pc) (ZN (ZU hX2) (j:=40) rfl (by kernel_rfl)) ?_;refine YU rfl (some 9) rfl 22 rfl (.const (.slice none 0 0)) (.tmp 8) 22 rfl (.slice none 0 0) (.slice d.pa e.Xe.length d.pc) (.slice a3 e.Xe.length c3) V3 (by kernel_rfl) (by kernel_rfl) au4 ?_;refine ZQ (Z7 g1 40)<|Yb rfl (hst2)<|wn ?_;simp only[pu];go_upto_region 3 with fail;refine wl<|ZC rfl ⟨g1,0,none⟩ (.agg (ZO e ⟨a2,c2,a3,c3⟩)) (ZE (ZU Xu))<|Yb rfl (hst3)<|wn ?_;simp only[pu];go_wp2_with fail;exact bodyPost_ret (YV rfl (by kernel_rfl) (ZE (ZU aO))) rfl HE.out
end Go.Proofs.YtnelmomagdcmnaaGreat
