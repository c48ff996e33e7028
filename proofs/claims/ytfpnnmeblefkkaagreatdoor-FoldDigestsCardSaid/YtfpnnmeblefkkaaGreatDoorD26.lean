/-
  Texts joined.
-/
import Derived.Test.YtfpnnmeblefkkaaGreatDoorD25
import Derived.Stop.BytesEq
import Derived.Test.YtfpnnmeblefkkaaGreatDoorRows
import Derived.ProofKit
import Derived.LaidMore
import Derived.Lib.LaidTab
import Derived.SizedLaws
import Derived.Stop.Joined
set_option maxRecDepth 100000
set_option maxHeartbeats 8000000
set_option linter.unusedSimpArgs false
set_option linter.unusedVariables false
namespace Go.Proofs.YtfpnnmeblefkkaaGreatDoor
open Go.RowKit
theorem Jz (w:World):(w.alloc (.cells #[] 5)).ownsRow w.heap.size 5 1 (.slice (some ⟨w.heap.size,0,none⟩) 0 0) 0 []:=
  ⟨by simp,.inr ⟨w.heap.size,0,#[],rfl,Nat.le_refl _,heap_alloc_new w _,by omega,by unfold maxLen; omega,rfl,rfl⟩⟩
theorem I4 (b:Int)(j:Nat)(hj:j<8):(Yo b).take (j+1)=(Yo b).take j++[b / 2 ^ (56-8*j) % 256]:=by
  match j,hj with
  | 0,_ | 1,_ | 2,_ | 3,_ | 4,_ | 5,_ | 6,_ | 7,_=>rfl
theorem yP (L:List Int):(padded L).length=L.length+zeros L.length+9/\(padded L).length % 64=0:=by
  rw[OT,List.length_append,Fp];refine⟨by omega,?_⟩;unfold zeros;omega
theorem Fh (L:List Int)(h8:∀ x,x∈L->W8 x):∀ x,x∈padded L->W8 x:=by
  intro x hx;rw[OT,List.mem_append] at hx;rcases hx with hx | hx
  · exact h8 x hx
  · exact RZ _ x hx
theorem sK.part {w:World}{g:Nat}{B:List Int}(h:sK w g 0 B)(o n:Nat)(hn:o+n<=B.length):sK w g o ((B.drop o).take n):=by
  intro j hj;have hj':j<n:=by simp at hj; omega
  have:=h (o+j) (by omega);rw[Nat.zero_add] at this;rw[this];simp only[List.getD];rw[List.getElem?_take_of_lt hj',List.getElem?_drop]
theorem ah {w:World}{g:Nat}{H:List Int}(h:Yu w g 142 H)(hH:H.length=8):(Instr.loadAt 142 (Z5 g 0)).run Tryz.prog w=.ok (.agg (ZG H)) w:=
  run_loadAt_mid w g 0 142 (H.map (Value.int .u32)) (.array 8 141) (fun j v hv=>by
    rw[cell_of_row w g _ _ 142 (0,0) h];simpa using hv) (by kernel_rfl) rfl (by simp only[List.length_map,hH]; kernel_rfl)
theorem sG {P:Program}{C:World->Prop}{ops:Array Oper}{Q:Act->Prop}{a:Act}{op:Oper}{rest:List Oper}(hgd:op.guard=none)(ty:TypeId)(x l h:Operand)(ho:op.op=.slice ty x (some l) (some h) none)
    (vx vl vh v:Value) (hx:a.eval x=vx) (hl:a.eval l=vl) (hh:a.eval h=vh) (hs:∀ w,C w->(Instr.sliceAt ty vx (some vl) (some vh) none).run P w=.ok v w)
    (hK:wpQuiet P ops C Q rest (a.put op.dst v)):wpQuiet P ops C Q (op::rest) a:=by
  refine XW hgd v (fun w hC=>?_) hK;unfold execOp;simp only[ho,hx,hl,hh,Option.map_some,Option.map_none,Sem.run_bind,hs w hC];rfl
theorem slice_mid (g n c l h:Nat)(w:World)(hl:l<=h)(hh:h<=c)(hc:c≠l):(Instr.slice 54 (.slice (some ⟨g,0,none⟩) n c) (some (Z8 (l:Int))) (some (Z8 (h:Int))) none).run Tryz.prog w=.ok (.slice (some ⟨g,l,none⟩) (h-l) (c-l)) w:=by
  rw[J4 .i64 .i64 _ n c l h w hl hh];unfold YJ;rw[if_neg hc];simp only[Option.map_some];rw[Addr.add_mid,Nat.zero_add]
theorem Fg (a:Option Addr)(c:Nat)(L:List Int)(w:World)(hr:Sl w a c L)(h8:∀ x,x∈L->W8 x)(hn:L.length<=400000) :
    Calls Tryz.prog 56 #[.slice a L.length c] w fun e w'=>e=.returned (.agg (ZF (WO L)))/\Below w.heap.size w w':=by
  obtain⟨i0,hi,hz0,hz1,hz2⟩:=info_parts info5;have HI:=Z9 hi;have HZ0:=Z9 hz0;have HZ1:=Z9 hz1;have HZ2:=Z9 hz2;clear hi hz0 hz1 hz2;have hzn:zeros L.length<=63:=by unfold zeros; omega
  have hb0:Below w.heap.size w (w.alloc (.cells (ZF (List.replicate 32 0)) 50)):=(Below.refl _ _).alloc (by simp) _;have hA0:Ab (w.alloc (.cells (ZF (List.replicate 32 0)) 50)) w.heap.size 50 (List.replicate 32 0):=heap_alloc_last _ _;have hs0:(w.alloc (.cells (ZF (List.replicate 32 0)) 50)).heap.size=w.heap.size+1:=by simp
  have hr1:=ZP (ZP hr hb0) ((Below.refl _ (w.alloc (.cells (ZF (List.replicate 32 0)) 50))).alloc (Nat.le_refl _) (.cells #[] 5));go_enter Tryz.func56,Tryz.ntmps56;go_upto_region 1 with fail;change Code.wp _ _ _ _ (w.alloc (.cells (ZF (List.replicate 32 0)) 50));generalize w.alloc (.cells (ZF (List.replicate 32 0)) 50)=W0 at *
  have HR1:=Z9 hr1;have HB0:=Z9 hb0;have HA0:=Z9 hA0;have IV:=Z9 hs0;have H8:=Z9 h8;clear hr1 hr hb0 hA0 hs0 h8;go_wp2_with (first
    | (at_builtin; refine YB rfl (.tmp 10) (.tmp 11) 54 rfl W0.heap.size i0 Tryz.underlying54 HI.out HZ0.out HZ1.out HZ2.out _ 0 [] rfl (Jz W0) a L.length c L rfl rfl HR1.out (by omega) (by simp) ?_; intro v1 w1 ho1 hg1; have hb1:=YX (w0:=W0) (Nat.le_refl _) (by simp) (Jz W0) ((Below.refl _ W0).alloc (Nat.le_refl _) _) hg1; clear hg1)
    | (at_builtin; refine YB rfl (.tmp 12) (.tmp 13) 54 rfl W0.heap.size i0 Tryz.underlying54 HI.out HZ0.out HZ1.out HZ2.out _ (0+L.length) _ rfl (ho1.alloc _) (some ⟨w1.heap.size,0,none⟩) 1 1 [128] rfl rfl (Rl _ _ _) (by omega) (by have:=hb1.size; simp; omega) ?_; intro v2 w2 ho2 hg2; have hb2:=YX (Nat.le_refl _) (hb1.alloc hb1.size _).size (ho1.alloc _) (hb1.alloc hb1.size _) hg2; clear hg2))
  have hO2:Own w2 W0.heap.size v2 (L++[128]):=by
    unfold Own;simpa using ho2
  clear ho1 ho2 hb1 HR1;go_loopg [3] (zeros L.length) (fun g s3 wx=>∃ z:Nat,z<=zeros L.length/\Own wx W0.heap.size s3 (L++[128]++List.replicate z 0)/\Below W0.heap.size W0 wx/\zeros L.length-z=g)
  case atStart=>exact⟨0,by omega,by simpa using hO2,hb2,rfl⟩
  case round=>
    clear hO2 hb2 w2;obtain⟨z,hz,hO,hb,hgk⟩:=hrel;obtain⟨a3,c3,rfl,-,-⟩:=hO.sl;have hl:(L++[128]++List.replicate z 0).length=L.length+1+z:=(by simp; omega);have hsz:=hb.size;by_cases hlt:z<zeros L.length
    · have ht:¬ ((L.length+1+z:Nat):Int) % 64=56:=(by unfold zeros at hlt; omega);have hO':wr.ownsRow W0.heap.size 5 1 (.slice a3 (L.length+1+z) c3) (L.length+1+z) ((L++[128]++List.replicate z 0).map (Value.int .u8)):=by
        unfold Own at hO;rwa [hl] at hO
      rw[hl];have HL:Hid (∀ (v:Value) (w':World),w'.ownsRow W0.heap.size 5 1 v (L.length+1+z+1) ((L++[128]++List.replicate z 0).map (Value.int .u8)++[0].map (Value.int .u8))->Own w' W0.heap.size v (L++[128]++List.replicate (z+1) 0)):=Z9 (by
        intro v w' h;unfold Own;have e:(L++[128]++List.replicate (z+1) (0:Int)).length=L.length+1+z+1:=(by simp; omega);have e2:L++[128]++List.replicate (z+1) (0:Int)=(L++[128]++List.replicate z 0)++[0]:=(by rw[List.replicate_succ',List.append_assoc,List.append_assoc,List.append_assoc]);rw[e,e2,List.map_append (l₂:=[0])];exact h)
      have pW:=Z9 hlt;have hq:L.length+1+z<=1000000:=(by omega);clear hO hlt hl;generalize (L++[128]++List.replicate z 0).map (Value.int .u8)=xs at *
      generalize hqq:L.length+1+z=q at *
      clear hqq;go_wp2_with (at_builtin; refine YB rfl _ _ 54 rfl W0.heap.size i0 Tryz.underlying54 HI.out HZ0.out HZ1.out HZ2.out _ q _ rfl (hO'.alloc _) (some ⟨wr.heap.size,0,none⟩) 1 1 [0] rfl rfl (Rl _ _ _) (by omega) (by simp; omega) ?_; intro v3 w3 ho3 hg3; have hb3:=YX (Nat.le_refl _) (hb.alloc hsz _).size (hO'.alloc _) (hb.alloc hsz _) hg3; clear hg3; have HO3:=Z9 (HL.out _ _ ho3); clear ho3)
      go_roundg (zeros L.length-(z+1))
      case measure=>have:=pW.out; omega
      case rel=>exact⟨z+1,by have:=pW.out; omega,HO3.out,hb3,rfl⟩
    · have ht:((L.length+1+z:Nat):Int) % 64=56:=(by unfold zeros at hlt hz; omega);have hzz:z=zeros L.length:=(by omega);have hO':Own wr W0.heap.size (.slice a3 (L.length+1+z) c3) (L++[128]++List.replicate (zeros L.length) 0):=by
        rw[<- hzz];rwa [hl] at hO
      rw[hl];have hq:L.length+1+z<=1000000:=(by omega);have hP:(L++[128]++List.replicate (zeros L.length) 0).length=L.length+1+z:=(by rw[<- hzz]; exact hl);have HPD:Hid (∀ j,j=8->(L++[128]++List.replicate (zeros L.length) 0)++(Yo ((L.length:Int)*8)).take j=padded L):=Z9 (by
        intro j hj;rw[hj,show(Yo ((L.length:Int)*8)).take 8=Yo ((L.length:Int)*8) from rfl];unfold padded;rw[show(L.length:Int)*8 % 18446744073709551616=(L.length:Int)*8 by omega])
      have HO:=Z9 hO';have HP:=Z9 hP;have HZZ:=Z9 hzz;clear hO hlt hl hO' hP hzz hgk;generalize L++[128]++List.replicate (zeros L.length) 0=P at *
      generalize hqq:L.length+1+z=q at *
      have HQQ:=Z9 hqq;clear hqq;go_upto_region 4 with fail;generalize hln:L.length=ln at *
      have Ah:=Z9 hln;clear hln;go_wp2_with fail;have hB:=Z9 hb;clear hb hsz ht;go_loopg [3,5] 8 (fun g s3 s5 wx=>∃ j:Nat,j<=8/\s5=Z8 (7-(j:Int))/\Own wx W0.heap.size s3 (P++(Yo ((ln:Int)*8)).take j)/\Below W0.heap.size W0 wx/\8-j=g)
      case atStart=>
        refine⟨0,by omega,by rfl,?_,hB.out,rfl⟩;rw[List.take_zero,List.append_nil];exact HO.out
      case round=>
        clear HO hB;obtain⟨j,hj,rfl,hO,hb,hgk⟩:=hrel;obtain⟨a3,c3,rfl,-,-⟩:=hO.sl;have hl:(P++(Yo ((ln:Int)*8)).take j).length=q+j:=(by rw[List.length_append,HP.out,List.length_take,Rh]; omega);have hsz:=hb.size;by_cases hlt:j<8
        · have hO':wr.ownsRow W0.heap.size 5 1 (.slice a3 (q+j) c3) (q+j) ((P++(Yo ((ln:Int)*8)).take j).map (Value.int .u8)):=by
            unfold Own at hO;rwa [hl] at hO
          rw[hl];have HL:Hid (∀ (v:Value) (w':World),w'.ownsRow W0.heap.size 5 1 v (q+j+1) ((P++(Yo ((ln:Int)*8)).take j).map (Value.int .u8)++[(ln:Int)*8 / 2 ^ (56-8*j) % 256].map (Value.int .u8))->Own w' W0.heap.size v (P++(Yo ((ln:Int)*8)).take (j+1))):=Z9 (by
            intro v w' h;unfold Own;have e:(P++(Yo ((ln:Int)*8)).take (j+1)).length=q+j+1:=(by rw[List.length_append,HP.out,List.length_take,Rh]; omega);rw[e,I4 _ _ hlt,<- List.append_assoc,List.map_append (l₂:=[_])];exact h)
          have hs:8*(7-(j:Int))=((56-8*j:Nat):Int):=(by omega);have aQ3:56-8*j<=64:=(by omega);have HJ:Hid (7-((j+1:Nat):Int)=7-(j:Int)-1):=Z9 (by omega);have hqj:q+j<=1000008:=(by omega);clear hO hl;generalize (P++(Yo ((ln:Int)*8)).take j).map (Value.int .u8)=xs at *
          generalize hmm:56-8*j=m at *
          clear hmm;have e1:=fun x=>af0 x m aQ3;generalize hqq:q+j=r at *
          clear hqq;go_wp2_with (at_builtin; refine YB rfl _ _ 54 rfl W0.heap.size i0 Tryz.underlying54 HI.out HZ0.out HZ1.out HZ2.out _ r _ rfl (hO'.alloc _) (some ⟨wr.heap.size,0,none⟩) 1 1 [(ln:Int)*8 / 2 ^ m % 256] rfl rfl (Rl _ _ _) (by omega) (by simp; omega) ?_; intro v3 w3 ho3 hg3; have hb3:=YX (Nat.le_refl _) (hb.alloc hsz _).size (hO'.alloc _) (hb.alloc hsz _) hg3; clear hg3; have HO3:=Z9 (HL.out _ _ ho3); clear ho3)
          go_roundg (8-(j+1))
          case measure=>omega
          case rel=>exact⟨j+1,by omega,by rw[HJ.out],HO3.out,hb3,rfl⟩
        · obtain⟨mm,hmm⟩:∃ mm,mm=padded L:=⟨_,rfl⟩;rw[HPD.out j (by omega),<- hmm] at hO;have hpl:=yP L;rw[<- hmm] at hpl;have h8m:∀ x,x∈mm->W8 x:=(by rw[hmm]; exact Fh L H8.out);rw[HPD.out j (by omega),<- hmm];obtain⟨gm,hgm,aQ4,aQ5⟩:=Tv hO (by rw[hpl.1]; omega);subst hgm;obtain⟨a9,c9,e9,hsl,hcap⟩:=hO.sl;obtain⟨rfl,-,rfl⟩:some ⟨gm,0,none⟩=a9/\mm.length=mm.length/\c3=c9:=(by simpa using e9);have hby:sK wr gm 0 mm:=fun k hk=>by
            obtain⟨b,off,e,-,hc⟩:=Oq hsl hk;obtain⟨rfl,rfl⟩:gm=b/\0=off:=(by simpa using e);exact hc
          have hz0:Ab wr w.heap.size 50 (List.replicate 32 0):=HA0.out.below (by rw[IV.out]; omega) hb;have hbw:Below w.heap.size w wr:=HB0.out.trans (hb.mono (by rw[IV.out]; omega));have hml:mm.length<=500000:=(by rw[hpl.1,Ah.out]; omega);have hmT:mm.length=64*(mm.length / 64):=(by omega);have hgw:w.heap.size<gm:=(by have:=IV.out; omega);have HMM:=Z9 hmm;have H8M:=Z9 h8m;clear hO hl e9 hsl hmm h8m hpl hb aQ4 HPD HP HQQ HZZ;go_upto_region 9 with fail;apply wp_region_lit;refine Zy rfl (some 38) rfl (.agg (ZG I7)) wr (by kernel_rfl) ?_;refine Zy rfl (some 6) rfl (Z5 wr.heap.size 0) (wr.alloc (.cells (List.replicate 8 (.int .u32 0)).toArray 142)) (by kernel_rfl) ?_;apply Yf (w:=wr) (ty:=142) (x:=.tmp 6) (y:=.tmp 38) (c:=(List.replicate 8 (.int .u32 0)).toArray) (c':=ZG I7)
          case hgd=>rfl
          case ho=>rfl
          case hx=>kernel_rfl
          case hy=>kernel_rfl
          case hi=>kernel_rfl
          case hz=>rfl
          case h1=>exact Vm _
          apply wpList_nil;have hbn:=(Below.refl wr.heap.size wr).alloc (Nat.le_refl _) (.cells (ZG I7) 142);have hH:Yu (wr.alloc (.cells (ZG I7) 142)) wr.heap.size 142 (states mm 0):=heap_alloc_last _ _;have aH6:=hby.below aQ5 hbn;have hz1:=hz0.alloc (.cells (ZG I7) 142);have aH7:=hbw.alloc hbw.size (.cells (ZG I7) 142);clear hby hz0 hbw hbn hsz;generalize wr.alloc (.cells (ZG I7) 142)=V at *
          generalize wr.heap.size=gh at *
          clear wr;generalize hll:mm.length=ml at *
          have HLL:=Z9 hll;clear hll;generalize hTT:ml / 64=T at *
          have HTT:=Z9 hTT;have HMT:=Z9 hmT;clear hTT hmT;go_wp2_with fail;go_loopg [7] T (fun g s7 wx=>∃ t:Nat,t<=T/\s7=Z8 ((64*t:Nat):Int)/\Yu wx gh 142 (states mm t)/\sK wx gm 0 mm/\Ab wx w.heap.size 50 (List.replicate 32 0)/\Below w.heap.size w wx/\T-t=g)
          case atStart=>exact⟨0,by omega,by rfl,hH,aH6,hz1,aH7,rfl⟩
          case round=>
            clear hH aH6 hz1 aH7 V;obtain⟨t,ht,rfl,hH,hby,hz,hbw,hgt⟩:=hrel;by_cases hlt3:t<T
            · have hs8:=JA mm t;have htl:64*t+64<=ml:=(by have:=HMT.out; omega);have hti:((64*t:Nat):Int)<(ml:Int):=(by omega);have hco:64*t+64<=c3:=(by omega);have HNX:Hid (64*(t+1)=64*t+64):=Z9 rfl;have HST:Hid (states mm (t+1)=blk (states mm t) ((mm.drop (64*t)).take 64)):=Z9 rfl;have HPT:Hid (∀ w',sK w' gm 0 mm->sK w' gm (64*t) ((mm.drop (64*t)).take 64)):=Z9 (fun w' h=>h.part _ _ (by rw[HLL.out]; omega));have LP:Hid (((mm.drop (64*t)).take 64).length=64):=Z9 (by simp[HLL.out]; omega);have HP8:Hid (∀ x,x∈(mm.drop (64*t)).take 64->W8 x):=Z9 (fun x hx=>H8M.out x (List.mem_of_mem_drop (List.mem_of_mem_take hx)));generalize (mm.drop (64*t)).take 64=Bk at *
              generalize hoo:64*t=o at *
              have HOO:=Z9 hoo;clear hoo;have HH:=Z9 hH;have HBY:=Z9 hby;have HZ:=Z9 hz;have RV:=Z9 hbw;clear hH hby hz hbw;go_upto_region 13 with fail;refine XV (C:=fun w'=>Yu w' gh 142 (states mm t)/\sK w' gm 0 mm/\Ab w' w.heap.size 50 (List.replicate 32 0)/\Below w.heap.size w w') 7 (by kernel_rfl) (by kernel_rfl) ⟨HH.out,HBY.out,HZ.out,RV.out.drew⟩ ?_;simp only[List.take_succ_cons,List.take_zero,List.drop_succ_cons,List.drop_zero];refine JE rfl 142 (.tmp 6) rfl ⟨gh,0,none⟩ (.agg (ZG (states mm t))) (by kernel_rfl) (fun w' hC=>ah hC.1 hs8) ?_;refine XW rfl (.slice (some ⟨gm,0,none⟩) ml c3) (fun w' _=>by kernel_rfl) ?_;refine XW rfl (Z8 o) (fun w' _=>by kernel_rfl) ?_;refine XW rfl (Z8 o) (fun w' _=>by kernel_rfl) ?_;obtain⟨p,hp⟩:∃ p,p=o+64:=⟨_,rfl⟩;refine XW rfl (Z8 p) (fun w' _=>by go_simp; rw[IntKind.wrap_i64]; omega) ?_;refine sG rfl 54 (.tmp 46) (.tmp 47) (.tmp 49) rfl (.slice (some ⟨gm,0,none⟩) ml c3) (Z8 o) (Z8 p) (.slice (some ⟨gm,o,none⟩) 64 (c3-o)) (by kernel_rfl) (by kernel_rfl) (by kernel_rfl)
                (fun w' _=>by have e:=slice_mid gm ml c3 o p w' (by omega) (by omega) (by omega); rw[show p-o=64 by omega] at e; exact e) ?_
              refine BL rfl 96 #[.agg (ZG (states mm t)),.slice (some ⟨gm,o,none⟩) 64 (c3-o)] (.agg (ZG (blk (states mm t) Bk))) (fun w' _=>by kernel_rfl)
                (fun w' hC=>(sJ (states mm t) Bk gm o (c3-o) w' hs8 LP.out (HPT.out w' hC.2.1) HP8.out (by have:=hC.1.lt; omega)).mono fun e w'' ⟨he,hb⟩=>
                  ⟨he,hC.1.below hC.1.lt hb,hC.2.1.below (by have:=hC.1.lt; omega) hb,hC.2.2.1.below hC.2.2.1.lt hb,hC.2.2.2.trans (hb.mono hC.2.2.2.size)⟩) ?_
              refine wpQuiet_nil ?_;intro w' hC;have hq8:(ZG (blk (states mm t) Bk)).size=8:=(by simp[NR _ _ hs8]);have aH8:(ZG (states mm t)).size=8:=(by simp[hs8]);apply Zt (ty:=142) (x:=.tmp 6) (y:=.tmp 51) (g:=gh) (c:=ZG (states mm t)) (c':=ZG (blk (states mm t) Bk))
              case hgd=>rfl
              case ho=>rfl
              case hx=>kernel_rfl
              case hy=>kernel_rfl
              case hg=>exact hC.1
              case hi=>rw[hq8]; kernel_rfl
              case hz=>rw[hq8,aH8]
              case h1=>exact Vm _
              apply wpList_nil;have hH2:Yu (w'.setRow gh (ZG (blk (states mm t) Bk))) gh 142 (blk (states mm t) Bk):=setRow_heap _ _ _ _ _ _ hC.1;have hO:∀ k,k≠gh->(w'.setRow gh (ZG (blk (states mm t) Bk))).heap[k]?=w'.heap[k]?:=fun k hk=>setRow_other w' gh k _ hk;have aH9:sK (w'.setRow gh (ZG (blk (states mm t) Bk))) gm 0 mm:=fun k hk=>by
                have:=hC.2.1 k hk;unfold World.cell? at this ⊢;rw[hO gm (by omega)];exact this
              have hz2:Ab (w'.setRow gh (ZG (blk (states mm t) Bk))) w.heap.size 50 (List.replicate 32 0):=by
                have:=hC.2.2.1;unfold Ab at this ⊢;rw[hO _ (by omega)];exact this
              have hw2:=ZU hC.2.2.2 (by omega:w.heap.size<=gh) (ZG (blk (states mm t) Bk));have HH2:=Z9 hH2;have aQ6:=Z9 aH9;have aQ7:=Z9 hz2;have HW2:=Z9 hw2;clear hH2 aH9 hz2 hw2 hC hO hq8 aH8 hs8;generalize w'.setRow gh (ZG (blk (states mm t) Bk))=V at *
              go_wp2_with fail;go_roundg (T-(t+1))
              case measure=>omega
              case rel=>exact⟨t+1,by omega,by rw[HNX.out]; rfl,by rw[HST.out]; exact HH2.out,aQ6.out,aQ7.out,HW2.out,rfl⟩
            · have htT:t=T:=(by omega);have hti:¬ ((64*t:Nat):Int)<(ml:Int):=(by have:=HMT.out; omega);rw[htT] at hH;have UL:=Z9 htT;clear htT hlt3 ht hgt;generalize 64*t=o at *
              have hsh:Hid (∀ i,i=32->outs (states mm T) i=WO L):=Z9 (fun i hi=>by
                rw[hi];unfold WO;rw[<- HMM.out,HLL.out,HTT.out])
              have hs8:=JA mm T;generalize states mm T=H2 at *
              have HH:=Z9 hH;have HZ:=Z9 hz;have RV:=Z9 hbw;have hgh:=hH.lt;clear hH hz hbw hby;go_upto_region 15 with fail;have hA:Ab (wr.alloc (.cells (ZF (List.replicate 32 0)) 50)) wr.heap.size 50 (outs H2 0++List.replicate (32-0) 0):=heap_alloc_last _ _;have hH4:=HH.out.alloc (.cells (ZF (List.replicate 32 0)) 50);have hz4:=HZ.out.alloc (.cells (ZF (List.replicate 32 0)) 50);have hb4:=RV.out.alloc RV.out.size (.cells (ZF (List.replicate 32 0)) 50);have an1:=RV.out.size;have hlz:=HZ.out.lt;change Code.wp _ _ _ _ (wr.alloc (.cells (ZF (List.replicate 32 0)) 50));clear HH HZ RV;generalize wr.alloc (.cells (ZF (List.replicate 32 0)) 50)=V at *
              generalize wr.heap.size=kb at *
              clear wr;go_wp2_with fail;go_loopg [52] 32 (fun g s52 wx=>∃ i:Nat,i<=32/\s52=Z8 i/\Yu wx gh 142 H2/\Ab wx kb 50 (outs H2 i++List.replicate (32-i) 0)/\Ab wx w.heap.size 50 (List.replicate 32 0)/\Below w.heap.size w wx/\32-i=g)
              case atStart=>exact⟨0,by omega,by go_num,hH4,hA,hz4,hb4,rfl⟩
              case round=>
                clear hH4 hA hz4 hb4 V;obtain⟨i,hi,rfl,hH,hA,hz,hbw,hg4⟩:=hrel;by_cases hlt4:i<32
                · have hl:(outs H2 i++List.replicate (32-i) 0).length=32:=(by simp[Si]; omega);have x0:=hH.cell (i / 4) (by omega);have xz:=hA.cell i (by omega);have xf:=hA.frozen i;have hset:=BQ H2 i hlt4;have HOB:Hid (Ri H2 i=H2.getD (i / 4) 0 / 2 ^ (24-i % 4*8) % 256):=Z9 rfl;rw[HOB.out] at hset;have aq9:=Z9 hset;have HH:=Z9 hH;have HA:=Z9 hA;have HZ:=Z9 hz;have RV:=Z9 hbw;clear hset hH hA hz hbw hl hs8 HOB;generalize H2.getD (i / 4) 0=h at *
                  generalize (outs H2 i++List.replicate (32-i) 0).getD i 0=z at *
                  have q1:(i:Int).tdiv 4=((i / 4:Nat):Int):=(by simp);have q2:((i / 4:Nat):Int)<8:=(by omega);have q3:IntKind.i64.wrap ((i / 4:Nat):Int)=((i / 4:Nat):Int):=(by rw[IntKind.wrap_i64]; omega);have hs:24-(i:Int) % 4*8=((24-i % 4*8:Nat):Int):=(by omega);have ar0:24-i % 4*8<=32:=(by omega);generalize i / 4=k at *
                  generalize aQ8:24-i % 4*8=m at *
                  clear aQ8;have e1:=fun x=>ae9 x m ar0;go_wp2_with fail;have NA:=HA.out.set i (h / 2 ^ m % 256);rw[aq9.out] at NA;go_roundg (32-(i+1))
                  case measure=>omega
                  case rel=>exact⟨i+1,by omega,by go_num,HH.out.far _ (by simp; omega) _,NA,HZ.out.far _ (by simp; omega) _,RV.out.setCell (by simp; omega) _,rfl⟩
                · have hsh2:outs H2 i++List.replicate (32-i) 0=WO L:=by
                    rw[show 32-i=0 by omega,List.replicate_zero,List.append_nil];exact hsh.out i (by omega)
                  obtain⟨S,hS⟩:∃ S,S=WO L:=⟨_,rfl⟩;have hl:S.length=32:=(by rw[hS]; exact Si _ _);rw[hsh2,<- hS] at hA;have iM:=Z9 hS;have HZ:=Z9 hz;have HA:=Z9 hA;have HW:=Z9 hbw;have HL:=Z9 hl;clear hz hA hbw hl hsh2 hS hH;go_upto_region 20 with fail;have Qy:(ZF S).size=32:=(by simp[HL.out]);apply wp_region_lit;apply wpList_load_row (ty:=50) (x:=.tmp 8) (g:=kb) (t:=50) (cs:=ZF S) (fr:=(0,0)) (d:=.array 32 5)
                  case hgd=>rfl
                  case ho=>rfl
                  case hx=>kernel_rfl
                  case hg=>exact HA.out
                  case hu=>kernel_rfl
                  case hd=>rfl
                  case hi=>rw[Qy]; kernel_rfl
                  apply Zt (ty:=50) (x:=.tmp 2) (y:=.tmp 68) (g:=w.heap.size) (c:=ZF (List.replicate 32 0)) (c':=ZF S)
                  case hgd=>rfl
                  case ho=>rfl
                  case hx=>kernel_rfl
                  case hy=>kernel_rfl
                  case hg=>exact HZ.out
                  case hi=>rw[Qy]; kernel_rfl
                  case hz=>rw[Qy]; rfl
                  case h1=>exact WQ _
                  apply wpList_nil;go_wp2_with fail;refine bodyPost_ret (v:=.agg (ZF S)) ?_ rfl ⟨by rw[iM.out],ZU HW.out (Nat.le_refl _) _⟩;refine results_cell_row (fn:=Tryz.f56) (p:=2) (ty:=50) rfl _ _ w.heap.size 50 (ZF S) (0,0) (.array 32 5) rfl (setRow_heap _ _ _ _ _ _ HZ.out) ?_ rfl ?_
                  · kernel_rfl
                  · rw[Qy]; kernel_rfl
end Go.Proofs.YtfpnnmeblefkkaaGreatDoor
namespace Go.Proofs.YtfpnnmeblefkkaaGreatDoor
open Go.RowKit
end Go.Proofs.YtfpnnmeblefkkaaGreatDoor
namespace Go.Proofs.YtfpnnmeblefkkaaGreatDoor
open Go.ChangeShapes Go.WideShapes Go.ChangeAt Go.RowKit
theorem own:ownKnob Tryz.prog.godebug=none:=by kernel_rfl
theorem laidOut:laidOutB Tryz.prog=true:=by kernel_rfl
abbrev laid2:List (String×DataW Unit):=[("mempool/sha.start",Rows.laid_mempool_sha_start),("mempool/sha.constants",Rows.laid_mempool_sha_constants)]
theorem gn0:Tryz.prog.globalNamed "mempool/sha.start" = some 0:=by kernel_rfl
theorem gn1:Tryz.prog.globalNamed "mempool/sha.constants" = some 3:=by kernel_rfl
theorem gt0:(Tryz.prog.globals[0]?).map (·.type)=some 142:=by kernel_rfl
theorem gt1:(Tryz.prog.globals[3]?).map (·.type)=some 166:=by kernel_rfl
theorem JF {w:World}{name:String}{g:Nat}{cs:Array Value}(hg:Tryz.prog.globalNamed name=some g)(h:w.var? Tryz.prog name=some cs):∃ t fr,w.heap[g]?=some (.cells cs t fr):=by
  simp only[World.var?,hg,Option.bind_some] at h
  split at h
  · rename_i c t fr e
    obtain rfl:=Option.some.inj h;exact⟨t,fr,e⟩
  · cases h
theorem door_met (os:Os)(args:Array Value):laidMetH Tryz.prog laid2 ((World.doorLaid Tryz.prog 400 os).forCall (fun _ _=>0) ⟨#[],args,[]⟩).memory:=
  laidMetH_of_parts3 (fuel:=8) (laidMet_of_run' 8 (by kernel_rfl) (by kernel_rfl)) (by kernel_rfl) (by kernel_rfl)
theorem Fq {W:World}(h:laidMetH Tryz.prog laid2 W):Glob W:=by
  rw[MakeChecks.laidMetH_plain _ _ _ (by kernel_rfl)] at h;obtain⟨ps,⟨g0,t0,cs0,f0,p0,q0,hg0,ht0,hv0,hd0,⟨g1,t1,cs1,f1,p1,q1,hg1,ht1,hv1,hd1,_,_⟩,_⟩,_,_⟩:=h;obtain rfl:=Option.some.inj (gn0.symm.trans hg0);obtain rfl:=Option.some.inj (gn1.symm.trans hg1);obtain rfl:=Option.some.inj (gt0.symm.trans ht0);obtain rfl:=Option.some.inj (gt1.symm.trans ht1);have e0:=Lib.cells_of_tab (zs:=I7) (k:=.u32) Tryz.underlying142 Tryz.underlying141 (by kernel_rfl) (by kernel_rfl) hd0;have e1:=Lib.cells_of_tab (zs:=ks) (k:=.u32) Tryz.underlying166 Tryz.underlying141 (by kernel_rfl) (by kernel_rfl) hd1;obtain⟨t,fr,r0⟩:=JF gn0 hv0;obtain⟨t',fr',r1⟩:=JF gn1 hv1;have c0:cs0=ZG I7:=by
    obtain⟨l⟩:=cs0;exact congrArg List.toArray e0
  have c1:cs1=ZG ks:=by
    obtain⟨l⟩:=cs1;exact congrArg List.toArray e1
  subst c0 c1;exact⟨⟨t,fr,r0⟩,t',fr',r1⟩
section
variable {H : Type} {enc : TypeId × Value -> H} {W : World} {fuel : Nat}
end
end Go.Proofs.YtfpnnmeblefkkaaGreatDoor
namespace Go.Proofs.YtfpnnmeblefkkaaGreatDoor
open Go.RowKit
theorem BX:∀ (A B:List Int),A.length=B.length->((List.range A.length).all fun i=>A.getD i 0 == B.getD i 0)=(A == B)
  | [],[],_=>rfl
  | x::xs,y::ys,h=>by
    have ih:=BX xs ys (by simpa using h);rw[List.length_cons,List.range_succ_eq_map,List.all_cons,List.all_map];simp only[List.getD_cons_zero,Function.comp_def,List.getD_cons_succ,ih];simp[List.cons_beq_cons]
  | [],_::_,h=>by simp at h
  | _::_,[],h=>by simp at h
theorem jM {P:Program}(w:World)(d t e n:Nat)(ht:P.underlying t=some (.array n e))(he:P.underlying e=some (.int .u8))(hsz:∀ w,(sizeOf e).run P w=.ok 1 w)(A B:List Int)(hx:A.length=n)(hy:B.length=n) :
    (Op.equalIn (d+2) t (.agg (ZF A)) (.agg (ZF B))).run P w=.ok (A == B) w:=by
  rw[<- BX A B (hx.trans hy.symm),hx,List.range_eq_range',Op.equalIn];simp only[Sem.run_bind,run_underlying ht,Result.andThen_ok,hsz,Std.Legacy.Range.forIn_eq_forIn_range',Std.Legacy.Range.size,Nat.sub_zero,Nat.add_sub_cancel,Nat.div_one];have hl:∀ i∈List.range' 0 n 1,i<n:=fun i hi=>by simpa using(List.mem_range'_1.1 hi).2
  generalize List.range' 0 n 1=l at hl ⊢;induction l with
  | nil=>simp
  | cons i l ih=>
    have hi:i<n:=hl i (by simp);have px:(part e (ZF A) (i*1)).run P w=.ok (.int .u8 (A.getD i 0)) w:=by
      simp[part,isAgg,run_underlying he,List.getD,List.getElem?_eq_getElem (show i<A.length by omega)]
    have py:(part e (ZF B) (i*1)).run P w=.ok (.int .u8 (B.getD i 0)) w:=by
      simp[part,isAgg,run_underlying he,List.getD,List.getElem?_eq_getElem (show i<B.length by omega)]
    have pe:(Op.equalIn (d+1) e (.int .u8 (A.getD i 0)) (.int .u8 (B.getD i 0))).run P w=.ok (A.getD i 0 == B.getD i 0) w:=run_equalIn_int w d e .u8 .u8 _ _ he;simp only[List.forIn_cons,Sem.run_bind,px,py,pe,Result.andThen_ok,List.all_cons];cases hb:(A.getD i 0 == B.getD i 0)
    · simp
    · simp only[Bool.not_true,Bool.false_eq_true,if_false,Sem.run_pure,Result.andThen_ok,Bool.true_and];exact ih fun j hj=>hl j (by simp[hj])
theorem aB (A B:List Int)(hA:A.length=32)(hB:B.length=32)(w:World):(Op.equalIn 10000 50 (.agg (ZF A)) (.agg (ZF B))).run Tryz.prog w=.ok (A == B) w:=
  jM w 9998 50 5 32 (by kernel_rfl) Tryz.underlying5 (fun w=>by kernel_rfl) A B hA hB
theorem Ab.range {w:World}{g t:Nat}{L:List Int}(h:Ab w g t L):w.rangeAt g 0 (L.map (Value.int .u8)):=fun j v hv=>by
  rw[cell_of_row w g _ _ t (0,0) h];simpa using hv
theorem NT {P:Program}{C:World->Prop}{ops:Array Oper}{Q:Act->Prop}{a:Act}{op:Oper}{rest:List Oper}(hgd:op.guard=none)(ty:TypeId)(x h:Operand)(ho:op.op=.slice ty x none (some h) none)
    (vx vh v:Value) (hx:a.eval x=vx) (hh:a.eval h=vh) (hs:∀ w,C w->(Instr.sliceAt ty vx none (some vh) none).run P w=.ok v w)
    (hK:wpQuiet P ops C Q rest (a.put op.dst v)):wpQuiet P ops C Q (op::rest) a:=by
  refine XW hgd v (fun w hC=>?_) hK;unfold execOp;simp only[ho,hx,hh,Option.map_some,Option.map_none,Sem.run_bind,hs w hC];rfl
theorem Qb (g:Nat)(w:World):(Instr.sliceAt 50 (Z5 g 0) none none none).run Tryz.prog w=.ok (.slice (some ⟨g,0,none⟩) 32 32) w:=by
  kernel_rfl
theorem Sm {P:Program}{w:World}{ops:Array Oper}{o:Oper}{a:Act}{K:Act->World->Prop}{Q:Exit->Act->World->Prop}{E:Prop}(hgd:o.guard=none)(s x:Operand)(t:TypeId)
    (ho:o.op=.call { callee:=.builtin .append,args:=#[s,x],argTypes:=#[t,t] })
    (base:Nat) (i:TypeInfo) (ht:P.underlying t=some (.slice 5)) (hi:P.info? 5=some i) (hz:i.zero=some (.int .u8 0)) (hsize:i.size=1) (hby:i.bytes=1)
    (v:Value) (n:Nat) (xs:List Value) (hs:a.eval s=v) (hown:w.ownsRow base 5 1 v n xs)
    (ad:Option Addr) (m c:Nat) (L:List Int) (hx:a.eval x=.slice ad m c) (hm:L.length=m) (hr:Sl w ad c L) (hb:n+m<=140737488355328) (hbase:base<=w.heap.size)
    (h:∀ v' w',w'.ownsRow base 5 1 v' (n+m) (xs++L.map (Value.int .u8))->w.grownBy w' v.ownBlock->K (a.put o.dst v') w') :
    if Region.wanted o (yielded ops a.tmps)=true then Oper.wp P o a w K Q else E:=by
  have hw:Region.wanted o (yielded ops a.tmps)=true:=by simp[Region.wanted,hgd]
  rw[if_pos hw];subst hm;rcases hr with⟨rfl,rfl,rfl⟩ | ⟨y,rfl,hy⟩
  · have hrun:=run_append_owned_none (P:=P) (w:=w) base t o.type 5 i 1 ht hi v n xs hown;unfold Oper.wp;simp[execOp,ho,resolve,invoke,builtin,hs,hx,hrun,Result.andThen];exact h v w (by simpa using hown) (World.grownBy.refl w _)
  · refine wp_append_own w s x t ho base 5 i (.int .u8 0) 1 1 ht hi hz hsize hby rfl (by decide) v n xs hs hown y L.length c (L.map (Value.int .u8)) hx (by simp) ?_ (ints_oneCell _ _) (by unfold maxLen; omega) (by omega) hbase (fun v' w' h1 h2 _=>h v' w' h1 h2);intro j u hj;have hj':j<L.length:=by
      rcases Nat.lt_or_ge j L.length with h | h
      · exact h
      · rw[List.getElem?_eq_none (by simpa using h)] at hj; cases hj
    obtain⟨b,off,rfl,hc⟩:=hy j hj';rw[Go.WideShapes.add_plain,hc];rw[List.getElem?_map,List.getElem?_eq_getElem hj'] at hj;rw[List.getD_eq_getElem?_getD,List.getElem?_eq_getElem hj'];exact hj
theorem sZ (Ks:List (List Int))(i:Nat)(h:i<Ks.length):Ks.take (i+1)=Ks.take i++[Ks.getD i []]:=by
  rw[List.take_succ_eq_append_getElem h];have:Ks.getD i []=Ks[i]:=by simp[List.getD,List.getElem?_eq_getElem h]
  rw[this]
theorem Sj (K:List Int):(ZF K).size=K.length:=by simp
section
variable {P : Program} {ops : Array Oper} {rest : List Oper} {o : Oper} {a : Act} {w : World} {Q : Exit -> Act -> World -> Prop}
end
section
variable {P : Program} {C : World -> Prop} {ops : Array Oper} {Q : Act -> Prop} {a : Act} {o : Oper} {rest : List Oper}
end
theorem BU {w:World}{g t:Nat}{K:List Int}(h:Ab w g t K)(hK:K.length=32):(Instr.loadAt 50 (Z5 g 0)).run Tryz.prog w=.ok (.agg (ZF K)) w:=
  run_loadAt_mid w g 0 50 (K.map (Value.int .u8)) (.array 32 5) h.range (by kernel_rfl) rfl (by rw[List.length_map,hK]; kernel_rfl)
theorem BR:Tryz.prog.eqGuardType Tryz.prog.depth 50=false:=by kernel_rfl
theorem af6 {ρ:Operand->Value}{o:Oper}{x y:Operand}(ho:o.op=.binOp .eql 50 x y 50)(A B:List Int)(hA:A.length=32)(hB:B.length=32)(hx:ρ x=.agg (ZF A))(hy:ρ y=.agg (ZF B))(w:World) :
    (execOp ρ o).run Tryz.prog w=.ok (.value (.bool (A == B))) w:=by
  have h1:=aB A B hA hB w;have h2:=BR;unfold execOp;simp only[ho,hx,hy];simp[h1,h2,go_sem]
theorem sW (h:List Int)(n:Nat):∀ x,x∈outs h n->W8 x:=by
  induction n with
  | zero=>intro x hx; cases hx
  | succ n ih=>
    intro x hx;rw[outs] at hx;rcases List.mem_append.1 hx with hx | hx
    · exact ih x hx
    · rw[List.mem_singleton.1 hx];unfold Ri;exact⟨by omega,by omega⟩
theorem MZ (L:List Int):∀ x,x∈WO L->W8 x:=sW _ _
end Go.Proofs.YtfpnnmeblefkkaaGreatDoor
namespace Go.Proofs.YtfpnnmeblefkkaaGreatDoor
open Go.ChangeShapes Go.WideShapes Go.ChangeAt Go.RowKit Go.Deep Go.Joins
theorem aC {α:Type}{Q:Nat->α->Prop}(n:Nat)(h:∀ i,i<n->∃ p,Q i p):∃ ps:List α,ps.length=n/\∀ i p,ps[i]?=some p->Q i p:=by
  induction n with
  | zero=>exact⟨[],rfl,fun i p hi=>by simp at hi⟩
  | succ n ih=>
    obtain⟨ps,hl,hq⟩:=ih (fun i hi=>h i (by omega));obtain⟨p,hp⟩:=h n (by omega);refine⟨ps++[p],by simp[hl],fun i q hi=>?_⟩;by_cases hlt:i<n
    · rw[List.getElem?_append_left (by omega)] at hi;exact hq i q hi
    · have hb:=(List.getElem?_eq_some_iff.1 hi).1;rw[List.length_append,List.length_singleton] at hb;obtain rfl:i=n:=(by omega);rw[List.getElem?_append_right (by omega),hl] at hi;simp at hi;exact hi ▸ hp
section
variable {H : Type} {enc : TypeId × Value -> H} {W : World} {fuel : Nat}
end
end Go.Proofs.YtfpnnmeblefkkaaGreatDoor
namespace Go.Proofs.YtfpnnmeblefkkaaGreatDoor.Lg
attribute [local irreducible] wpList wpQuiet
open Mo (YK YR Yl Yw)
open Go.RowKit
def DgQ (f:Nat):Prop:=∀ w,Glob w->Calls Tryz.prog f #[.slice none 0 0] w fun e w'=>e=.returned (.agg (ZF (WO [])))/\Below w.heap.size w w'
theorem aF (S:List Int):(ZF S).all (·.oneCell')=true:=by simp[ZF,Value.oneCell']
theorem wB {w:World}{g:Nat}{S Z:List Int}(h:Bx w g (ZF Z) 50)(hZ:Z.length=32)(hS:S.length=32):(Instr.storeAt 50 (Z5 g 0) (.agg (ZF S))).run Tryz.prog w=.ok () (w.setRow g (ZF S))/\Bx (w.setRow g (ZF S)) g (ZF S) 50:=
 ⟨Yj h (by simp[ZF,hZ,hS]) (aF S) (by rw[show(ZF S).size=32 by simp[ZF,hS]]; kernel_rfl),h.set⟩
theorem ae7 (w:World):∃ W,w.alloc (.cells (ZF (List.replicate 32 0)) 50)=W/\Below w.heap.size w W/\Bx W w.heap.size (ZF (List.replicate 32 0)) 50:=⟨_,rfl,(Below.refl _ w).alloc (Nat.le_refl _) _,heap_alloc_last w _⟩
end Go.Proofs.YtfpnnmeblefkkaaGreatDoor.Lg
