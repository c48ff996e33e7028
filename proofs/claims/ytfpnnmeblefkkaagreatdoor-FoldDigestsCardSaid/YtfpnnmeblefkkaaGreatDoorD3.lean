/-
  Texts joined.
-/
import Derived.Test.YtfpnnmeblefkkaaGreatDoorD2
import Derived.Deep.QuietTactic
import Derived.BigQuiet
import Derived.Deep.Quiet
import Derived.Deep.Cut
import Derived.Deep.DeepCutAuto
import Derived.Deep.WholeRow
import Derived.Deep.MidRow
import Derived.Deep.Slices
import Derived.Great.BuildSlice
import Derived.KernelRfl
import Derived.OneCell
import Derived.Maps.AppendAt
set_option maxRecDepth 100000
set_option maxHeartbeats 8000000
set_option linter.unusedSimpArgs false
set_option linter.unusedVariables false
namespace Go.Proofs.YtfpnnmeblefkkaaGreatDoor
open Go.RowKit
theorem Il {a:Option Addr}{c:Nat}{L:List Int}{w:World}(hL:L.length<=1000000)(hr:Sl w a c L)(hw:∀ x,x∈L->W8 x){e0:Int}(h:rd 0 0 L=(0,0,e0)) :
    Calls Tryz.prog 140 #[.slice a L.length c] w fun e w'=>e=.returned (.tuple #[Z7 0,Z8 0,Z8 e0])/\w=w':=by
  have:=DC a c L w hL hr hw;rw[h] at this;exact this
theorem Dz {a:Option Addr}{c:Nat}{L:List Int}{w:World}(hL:L.length<=1000000)(hr:Sl w a c L)(hw:∀ x,x∈L->W8 x){t:Int}{k:Nat}(h:rd 0 0 L=(t,(k:Int),0)) :
    Calls Tryz.prog 140 #[.slice a L.length c] w fun e w'=>e=.returned (.tuple #[Z7 t,Z8 (k:Int),Z8 0])/\w=w':=by
  have:=DC a c L w hL hr hw;rw[h] at this;exact this
theorem XM.far {w:World}{g:Nat}{c0 c1 c2 c3:Value}(h:XM w g c0 c1 c2 c3){b o:Nat}(hp:b≠g)(u:Value):XM (w.setCell ⟨b,o,none⟩ u) g c0 c1 c2 c3:=by
  obtain⟨h0,h1,h2,h3,hf⟩:=h;exact⟨(World.cell?_setCell_other _ _ _ _ (fun e=>hp (congrArg Addr.block e))).trans h0,(World.cell?_setCell_other _ _ _ _ (fun e=>hp (congrArg Addr.block e))).trans h1,(World.cell?_setCell_other _ _ _ _ (fun e=>hp (congrArg Addr.block e))).trans h2,(World.cell?_setCell_other _ _ _ _ (fun e=>hp (congrArg Addr.block e))).trans h3,fun o=>(World.frozen?_setCell _ _ _ _).trans (hf o)⟩
theorem dM (a:Option Addr)(c:Nat)(L:List Int)(w:World)(hL:L.length<=1000000)(hr:Sl w a c L)(hw:∀ x,x∈L->W8 x)(hc:L.length<=c) :
    Calls Tryz.prog 113 #[.slice a L.length c] w (dN w (Vp L)):=by
  have hbn:=(Below.refl w.heap.size w).alloc (Nat.le_refl _) (.cells #[Z8 0,Z8 0,Z7 0,.slice none 0 0] 77);rcases Nj L hw with⟨e0,h,he⟩ | ⟨t,h,ht0,ht1,hrd,hh0,aN0,hle,-,-,hcs⟩
  · rw[F8 h he];have cS:=Il hL (ZP hr hbn) hw h;have h1:(e0 != 0)=true:=(by simpa using he);have h2:(e0 == 0)=false:=(by simpa using he);clear h he;go_enter Tryz.func113,Tryz.ntmps113;go_wp2_with fail;refine cS.mono ?_;rintro e w1 ⟨rfl,rfl⟩;clear cS;go_wp2;exact bodyPost_ret (v:=.tuple #[.agg #[Z8 0,Z8 0,Z7 0,.slice none 0 0],Z8 0,Z8 e0]) (by simp[results,Tryz.results113,go_sem]) rfl (Vo hbn)
  have cS:=Dz hL (ZP hr hbn) hw hrd;rcases hcs with hb | ⟨hg,hcs⟩
  · rw[F7 hrd hb];unfold WU at hb;have HG:=Z9 hb;clear hrd hb;go_enter Tryz.func113,Tryz.ntmps113;go_wp2_with fail;refine cS.mono ?_;rintro e w1 ⟨rfl,rfl⟩;clear cS;go_wp2_with fail;all_goals first
      | (exfalso; have hh:=HG.out; clear HG; simp at *; omega)
      | exact bodyPost_ret (v:=.tuple #[.agg #[Z8 0,Z8 0,Z7 0,.slice none 0 0],Z8 0,Z8 4]) (by simp[results,Tryz.results113,go_sem]) rfl (Vo hbn)
  obtain⟨kd,hk,hkd⟩:∃ kd,t % 8=kd/\(kd=0∨kd=2):=⟨_,rfl,hg.2.2⟩;have HS:=Z9 (TY hr h hc);have hsl:=fun wx=>VI .i64 a L.length c h wx hle;have Jc:Below w.heap.size w ((w.alloc (.cells #[Z8 0,Z8 0,Z7 0,.slice none 0 0] 77)).alloc (.cells #[Z8 (t / 8),Z8 kd,Z7 0,.slice none 0 0] 77)):=hbn.alloc hbn.size _;obtain⟨g1,g2,-⟩:=id hg;rcases hcs with⟨e0,h2,he⟩ | ⟨n,k,hn,h2,hk0,hk10,hle2,-,-⟩
  · rw[F6 hrd hg h2 he];have cR:∀ wx,Sl wx (YJ a c h) (c-h) (L.drop h)->Calls Tryz.prog 140 #[.slice (YJ a c h) (L.length-h) (c-h)] wx fun e w'=>e=.returned (.tuple #[Z7 0,Z8 0,Z8 e0])/\wx=w':=by
      intro wx hs;have:=Il (by rw[List.length_drop]; omega) hs (XC hw h) h2;rw[List.length_drop] at this;exact this
    have h1:(e0 != 0)=true:=(by simpa using he);have h2':(e0 == 0)=false:=(by simpa using he);clear h2 he hrd hg;rcases hkd with rfl | rfl
    all_goals
      go_enter Tryz.func113,Tryz.ntmps113;go_wp2_with fail;refine cS.mono ?_;rintro e w1 ⟨rfl,rfl⟩;clear cS;go_wp2_with fail;refine(cR _ (ZP HS.out Jc)).mono ?_;rintro e w2 ⟨rfl,rfl⟩;clear cR;go_wp2;exact bodyPost_ret (v:=.tuple #[.agg #[Z8 0,Z8 0,Z7 0,.slice none 0 0],Z8 0,Z8 e0]) (by simp[results,Tryz.results113,go_sem]) rfl (Vo Jc)
  have cR:∀ wx,Sl wx (YJ a c h) (c-h) (L.drop h)->Calls Tryz.prog 140 #[.slice (YJ a c h) (L.length-h) (c-h)] wx fun e w'=>e=.returned (.tuple #[Z7 (n:Int),Z8 (k:Int),Z8 0])/\wx=w':=by
    intro wx hs;have:=Dz (by rw[List.length_drop]; omega) hs (XC hw h) h2;rw[List.length_drop] at this;exact this
  have hn0:0<=(n:Int):=by omega
  rcases hkd with rfl | rfl
  · rw[Lh hrd hg h2 hk];clear h2 hrd hg;go_enter Tryz.func113,Tryz.ntmps113;go_wp2_with fail;refine cS.mono ?_;rintro e w1 ⟨rfl,rfl⟩;clear cS;go_wp2_with fail;refine(cR _ (ZP HS.out Jc)).mono ?_;rintro e w2 ⟨rfl,rfl⟩;clear cR;go_wp2;exact bodyPost_ret (v:=.tuple #[.agg #[Z8 (t / 8),Z8 0,Z7 (n:Int),.slice none 0 0],Z8 ((h+k:Nat):Int),Z8 0]) (by simp[results,Tryz.results113,go_sem]) rfl ⟨_,rfl,Own.nil _ _,((Below.refl _ _).alloc (Nat.le_refl _) _).alloc (by simp) _⟩
  by_cases hs:n<=(L.drop (h+k)).length
  · rw[Qg hrd hg h2 hk hs];rw[List.length_drop] at hs;have hlB:((L.drop (h+k)).take n).length=n:=(by rw[List.length_take,List.length_drop]; omega);have HS2:=Z9 (FZ (TY hr (h+k) hc) n);have aN1:∀ wx,(Instr.slice 54 (.slice a L.length c) (some (Z8 ((h:Int)+(k:Int)))) (some (Z8 ((h:Int)+(k:Int)+(n:Int)))) none).run Tryz.prog wx=.ok (.slice (YJ a c (h+k)) n (c-(h+k))) wx:=fun wx=>by
      have:=J4 .i64 .i64 a L.length c (h+k) (h+k+n) wx (by omega) (by omega);rw[Nat.add_sub_cancel_left] at this;exact this
    generalize (L.drop (h+k)).take n=B at *
    subst hlB;have hr2:(B.length:Int)<=(L.length:Int)-(h:Int)-(k:Int):=(by omega);have hBL:B.length<=1000000:=(by omega);obtain⟨i0,hi,hz0,hz1,hz2⟩:=info_parts info5;have HI:=Z9 hi;have HZ0:=Z9 hz0;have HZ1:=Z9 hz1;have HZ2:=Z9 hz2;clear hi hz0 hz1 hz2 h2 hrd hg;go_enter Tryz.func113,Tryz.ntmps113;go_wp2_with fail;refine cS.mono ?_;rintro e w1 ⟨rfl,rfl⟩;clear cS;go_wp2_with fail;refine(cR _ (ZP HS.out Jc)).mono ?_;rintro e w2 ⟨rfl,rfl⟩;clear cR;obtain⟨W2,hW2⟩:∃ W2,W2=(w.alloc (.cells #[Z8 0,Z8 0,Z7 0,.slice none 0 0] 77)).alloc (.cells #[Z8 (t / 8),Z8 2,Z7 0,.slice none 0 0] 77):=⟨_,rfl⟩;have K0:XM W2 w.heap.size (Z8 0) (Z8 0) (Z7 0) (.slice none 0 0):=(by rw[hW2]; exact(Xk w _ _ _ _).below ((Below.refl _ _).alloc (Nat.le_refl _) _));have K1:XM W2 (w.heap.size+1) (Z8 (t / 8)) (Z8 2) (Z7 0) (.slice none 0 0):=by
      rw[hW2];have:=Xk (w.alloc (.cells #[Z8 0,Z8 0,Z7 0,.slice none 0 0] 77)) (Z8 (t / 8)) (Z8 2) (Z7 0) (.slice none 0 0);simpa using this
    have hz:w.heap.size+2=W2.heap.size:=(by rw[hW2]; simp);rw[<- hW2] at Jc ⊢;have HZ:=Z9 hz;clear hW2 hz;have vH:=Z9 (ZP (ZP HS2.out Jc) ((Below.refl W2.heap.size W2).alloc (Nat.le_refl _) (.cells #[] 5)));go_wp2_with (at_builtin; refine YB rfl _ _ 54 rfl W2.heap.size i0 Tryz.underlying54 HI.out HZ0.out HZ1.out HZ2.out _ 0 [] rfl (UK W2) (YJ a c (h+k)) B.length (c-(h+k)) B rfl rfl vH.out ?c1 ?c2 ?_)
    case c1=>omega
    case c2=>simp
    intro v3 w3 aB6 hgrow;have hb3:=YX (w0:=W2) (Nat.le_refl _) (by simp) (UK W2) ((Below.refl _ W2).alloc (Nat.le_refl _) _) hgrow;have ho3:Own w3 W2.heap.size v3 B:=by
      show w3.ownsRow _ _ _ _ _ _;simpa using aB6
    have K2:=Z9 (K0.below hb3);have K3:=Z9 (K1.below hb3);have zI:=VR Jc hb3;obtain⟨a3,c3,rfl,-,-⟩:=Own.sl ho3;clear K0 K1 hgrow aB6 hb3 HS HS2 vH;obtain⟨k0,k1,k2,k3,kf⟩:=K3.out;obtain⟨j0,j1,j2,j3,jf⟩:=K2.out;go_wp2_with fail;clear k0 k1 k2 k3 kf j0 j1 j2 j3 jf;have hzz:=HZ.out;have K4:=K2.out.far (b:=w.heap.size+1) (o:=3) (by omega) (.slice a3 B.length c3);have ho4:Own (w3.setCell ⟨w.heap.size+1,3,none⟩ (.slice a3 B.length c3)) W2.heap.size (.slice a3 B.length c3) B:=ownsRow_setCell_below ho3 (a:=⟨w.heap.size+1,3,none⟩) (by show w.heap.size+1<_; omega) _;have aB7:=zI.setCell (p:=⟨w.heap.size+1,3,none⟩) (by show w.heap.size<=w.heap.size+1; omega) (.slice a3 B.length c3);generalize w3.setCell ⟨w.heap.size+1,3,none⟩ (.slice a3 B.length c3)=w4 at *
    obtain⟨W3,hW3,uJ,SC,mD,-⟩:=Nk K4 aB7 (Nat.le_refl _) (Z8 (t / 8)) (Z8 2) (Z7 0) (.slice a3 B.length c3);rw[hW3];have hO:=(mD _ _ _ ho4 (by omega)).base Jc.size;clear hW3 K4 aB7 K2 K3;obtain⟨k0,k1,k2,k3,-⟩:=uJ;exact bodyPost_ret (v:=.tuple #[.agg #[Z8 (t / 8),Z8 2,Z7 0,.slice a3 B.length c3],Z8 ((h+k+B.length:Nat):Int),Z8 0]) (by simp[results,Tryz.results113,go_sem,k0,k1,k2,k3]) rfl ⟨_,rfl,hO,SC⟩
  · rw[Qe hrd hg h2 hk (by omega)];rw[List.length_drop] at hs;have hr2:(L.length:Int)-(h:Int)-(k:Int)<(n:Int):=(by omega);clear h2 hrd hg hs;go_enter Tryz.func113,Tryz.ntmps113;go_wp2_with fail;refine cS.mono ?_;rintro e w1 ⟨rfl,rfl⟩;clear cS;go_wp2_with fail;refine(cR _ (ZP HS.out Jc)).mono ?_;rintro e w2 ⟨rfl,rfl⟩;clear cR;go_wp2;exact bodyPost_ret (v:=.tuple #[.agg #[Z8 0,Z8 0,Z7 0,.slice none 0 0],Z8 0,Z8 5]) (by simp[results,Tryz.results113,go_sem]) rfl (Vo Jc)
theorem Ku (a:Option Addr)(c:Nat)(L:List Int)(w:World)(hL:L.length<=1000000)(hr:Sl w a c L)(hw:∀ x,x∈L->W8 x)(hc:L.length<=c) :
    Calls Tryz.prog 74 #[.slice a L.length c] w (wY w (YO L)):=by
  obtain⟨i0,hi,hz0,hz1,hz2⟩:=info_parts info25;have HI:=Z9 hi;have HZ0:=Z9 hz0;have HZ1:=Z9 hz1;have HZ2:=Z9 hz2;have HD:Hid (YO L=Xl (L.length+1) [] 0 (L.drop 0)):=rfl;have HR:=Z9 hr;have HW:=Z9 hw;generalize YO L=X6 at *
  clear hi hz0 hz1 hz2 hr hw;go_enter Tryz.func74,Tryz.ntmps74;go_wp2_with fail;go_loopg [5,6] L.length (fun g s2 s6 wx=>∃ (i f:Nat) (ps:List (Zj×Value)),s6=Z8 (i:Int)/\i<=L.length/\L.length-i<f/\ps.length<=1024 /\
    Hid (X6=Xl f (ps.map Prod.fst) i (L.drop i))/\Hid (U5 wx w.heap.size s2 ps)/\Below w.heap.size w wx/\L.length-i=g)
  case atStart=>exact⟨0,L.length+1,[],rfl,by omega,by omega,by simp,HD,U5.nil _ _,Below.refl _ _,rfl⟩
  case round=>
    obtain⟨i,f,ps,rfl,hi,hf,hps,hd,hrow,hb,rfl⟩:=hrel;have hsz:=hb.size;obtain⟨va,vc,rfl,hvc⟩:=hrow.out.form;obtain⟨f',rfl⟩:∃ f',f=f'+1:=⟨f-1,by omega⟩;have hlR:(L.drop i).length=L.length-i:=List.length_drop;by_cases h0:L.length-i=0
    · have hfin:X6=(ps.map Prod.fst,0,0):=(by rw[hd.out,Ob (by omega)]);have hlt:¬ i<L.length:=(by omega);have QE:=Z9 hfin;clear hd h0 hfin hlR;go_wp2
      go_ret3
      exact DN QE.out hrow.out hb
    · have hpos:i<L.length:=(by omega);by_cases h1:ps.length=1024
      · have hfin:X6=([],(i:Int),3):=(by rw[hd.out,O5 (by omega) (by simp; omega)]);have hq:(1024:Int)<=(ps.length:Int):=(by omega);have QE:=Z9 hfin;clear hd h0 hfin h1 hlR;go_wp2
        go_ret3
        exact Qh QE.out rfl hb
      · have hq:¬ (1024:Int)<=(ps.length:Int):=(by omega);have aM9:ps.length+1<=1024:=(by omega);have HSR:=Z9 (TY HR.out i hc);have Gf:=Z9 (XC HW.out i);have cF:∀ wx,Sl wx (YJ a c i) (c-i) (L.drop i)->Calls Tryz.prog 113 #[.slice (YJ a c i) (L.length-i) (c-i)] wx (dN wx (Vp (L.drop i))):=fun wx hs=>by
          have:=dM (YJ a c i) (c-i) (L.drop i) wx (by omega) hs Gf.out (by omega);rw[hlR] at this;exact this
        have hsl:=fun wx=>VI .i64 a L.length c i wx hi;rcases F9 (L.drop i) Gf.out (by omega) with⟨e0,ho,he⟩ | ⟨x,hx,ho,hle,-⟩
        · have hfin:X6=([],(i:Int),e0):=(by rw[hd.out,Oa (by omega) (by simp; omega) ho he]);rw[ho] at cF;have h3:(e0 != 0)=true:=(by simpa using he);have h4:(e0 == 0)=false:=(by simpa using he);have QE:=Z9 hfin;clear hd h0 h1 ho he hfin hlR;go_wp2_with fail;refine(cF _ (ZP HSR.out hb)).mono ?_;rintro e w2 ⟨v2,rfl,ho2,hb2⟩;have hb3:=VR hb hb2;obtain⟨a2,c2,rfl,-,-⟩:=ho2.sl;clear cF hb2 ho2;go_wp2
          go_ret3
          exact Qh QE.out rfl (hb3.alloc hb3.size _)
        · have hd2:X6=Xl f' ((ps++[(x,Value.slice none 0 0)]).map Prod.fst) (i+(Yq x).length) (L.drop (i+(Yq x).length)):=by
            rw[hd.out,SE (by omega) (by simp; omega) ho,List.drop_drop];simp
          rw[ho] at cF;have hs2:=Wj x;have hlB:=hx.2.2.2;rw[hlR] at hle;generalize (Yq x).length=sz at *
          have HD2:=Z9 hd2;clear hd h0 h1 ho hd2 hlR;go_wp2_with fail;refine(cF _ (ZP HSR.out hb)).mono ?_;rintro e w2 ⟨v2,rfl,ho2,hb2⟩;have hb3:=VR hb hb2;have hrow2:=hrow.out.below hb2;obtain⟨a2,c2,rfl,-,-⟩:=ho2.sl;have dO:=Z9 (ho2.base hsz);have HR2:=Z9 hrow2;clear cF hb2 ho2 hrow hrow2;go_wp2_with (at_builtin; refine wpList_append_own _ rfl _ _ 78 rfl w.heap.size 77 i0 (.agg #[Z8 0,Z8 0,Z7 0,.slice none 0 0]) 4 48 Tryz.underlying78 HI.out HZ0.out HZ1.out HZ2.out rfl (by decide) (.slice va ps.length vc) ps.length (row4 ps) rfl ((HR2.out.1.alloc _).alloc _) ⟨w2.heap.size+1,0,none⟩ 1 1 (cellsOf (x,.slice a2 x.bytes.length c2)) rfl rfl (N8 _ (x,.slice a2 x.bytes.length c2) _ (by simp)) (cells_one (p:=(x,.slice a2 x.bytes.length c2)) dO.out) ?c1 ?c2 ?c3 ?_)
          case c1=>unfold maxLen; omega
          case c2=>omega
          case c3=>have:=hb3.size; simp; omega
          intro v3 w3 hown3 hgrow3 _;have HR3:=Z9 (U5.step (p:=(x,Value.slice a2 x.bytes.length c2)) (HR2.out.below ((Below.refl _ _).alloc (Nat.le_refl _) _)) (dO.out.below ((Below.refl _ _).alloc (Nat.le_refl _) _)) hown3 hgrow3);have hb4:Below w.heap.size w w3:=((hb3.alloc hb3.size _).alloc (by have:=hb3.size; simp; omega) _).grown hgrow3 (by have:=hb3.size; simp; omega) (fun j hj=>(HR2.out.1.lt j hj).1);clear hown3 hgrow3 HR2 dO;have HD3:Hid (X6=Xl f' ((ps++[(x,Value.slice a2 x.bytes.length c2)]).map Prod.fst) (i+sz) (L.drop (i+sz))):=Z9 (HD2.out.trans (by simp));have h7:i+sz<=L.length:=(by omega);have h9:L.length-(i+sz)<f':=(by omega);have h10:L.length-(i+sz)<L.length-i:=(by omega);have h11:(ps++[(x,Value.slice a2 x.bytes.length c2)]).length<=1024:=(by rw[List.length_append,List.length_singleton]; omega);clear HD2;go_wp2_with fail;go_roundg (L.length-(i+sz))
          case measure=>exact h10
          case rel=>exact⟨i+sz,f',_,by go_num,h7,h9,h11,HD3,HR3,hb4,rfl⟩
theorem LV {P:Program}{w:World}{ops:Array Oper}{o:Oper}{a:Act}{K:Act->World->Prop}{Q:Exit->Act->World->Prop}{E:Prop}(hgd:o.guard=none)(s x:Operand)(t:TypeId)
    (ho:o.op=.call { callee:=.builtin .append,args:=#[s,x],argTypes:=#[t,t] })
    (base:Nat) (i:TypeInfo) (ht:P.underlying t=some (.slice 5)) (hi:P.info? 5=some i) (hz:i.zero=some (.int .u8 0)) (hsize:i.size=1) (hby:i.bytes=1)
    (v:Value) (n:Nat) (xs:List Value) (hs:a.eval s=v) (hown:w.ownsRow base 5 1 v n xs)
    (ad:Option Addr) (m c:Nat) (L:List Int) (hx:a.eval x=.slice ad m c) (hm:L.length=m) (hr:Sl w ad c L) (hb:n+m<=140737488355328) (hbase:base<=w.heap.size)
    (h:∀ v' w',w'.ownsRow base 5 1 v' (n+m) (xs++L.map (Value.int .u8))->w.grownBy w' v.ownBlock->K (a.put o.dst v') w') :
    if Region.wanted o (yielded ops a.tmps)=true then Oper.wp P o a w K Q else E:=by
  have hw:Region.wanted o (yielded ops a.tmps)=true:=by simp[Region.wanted,hgd]
  rw[if_pos hw];subst hm;rcases hr with⟨rfl,rfl,rfl⟩ | ⟨y,rfl,hy⟩
  · have hrun:=run_append_owned_none (P:=P) (w:=w) base t o.type 5 i 1 ht hi v n xs hown;unfold Oper.wp;simp[execOp,ho,resolve,invoke,builtin,hs,hx,hrun,Result.andThen];exact h v w (by simpa using hown) (World.grownBy.refl w _)
  · refine wp_append_own w s x t ho base 5 i (.int .u8 0) 1 1 ht hi hz hsize hby rfl (by decide) v n xs hs hown y L.length c (L.map (Value.int .u8)) hx (by simp) ?_ (ints_oneCell _ _) (by unfold maxLen; omega) (by omega) hbase (fun v' w' h1 h2 _=>h v' w' h1 h2);intro j u hj;have hj':j<L.length:=by
      rcases Nat.lt_or_ge j L.length with h | h
      · exact h
      · rw[List.getElem?_eq_none (by simpa using h)] at hj; cases hj
    obtain⟨b,off,rfl,hc⟩:=hy j hj';rw[Go.WideShapes.add_plain,hc];rw[List.getElem?_map,List.getElem?_eq_getElem hj'] at hj;rw[List.getD_eq_getElem?_getD,List.getElem?_eq_getElem hj'];exact hj
theorem dI {w w':World}{B g o n:Nat}{v u:Value}{xs:List Value}(hgrow:w.grownBy w' v.ownBlock)(ho:w.ownsRow B 5 1 v n xs)(hg:g<B)(hc:w.cell? ⟨g,o,none⟩=some u):w'.cell? ⟨g,o,none⟩=some u:=by
  refine hgrow.cell hc (fun e=>?_);have:=(ho.lt _ e.symm).1;simp only at this;omega
theorem uM (a:Option Addr)(c:Nat)(L:List Int)(num kind val:Int)(b:Option Addr)(d:Nat)(B:List Int)(w:World)(hL:L.length<=900000)(hB:B.length<=1000000)(hr:Sl w a c L)(hs:Sl w b d B)(hv:D7 num kind val B.length)(hw:W64 val) :
    Calls Tryz.prog 55 #[.slice a L.length c,.agg #[Z8 num,Z8 kind,Z7 val,.slice b B.length d]] w fun e w'=>∃ v,e=.returned (.tuple #[v,Z8 0])/\Own w' w.heap.size v (L++encI num kind val B)/\Below w.heap.size w w':=by
  have cV:=uG num kind val b B.length d;rw[Nh hv] at cV;have hn0:=hv.1;have hn1:=hv.2.1;have htb:W64 (8*num+kind):=by unfold W64; unfold D7 at hv; omega
  have cA:=fun w hr=>O4 a c L (8*num+kind) w (by omega) hr htb;have hEl:=XZ (8*num+kind);have hfin:L++encI num kind val B=((L++Enc (8*num+kind))++Enc (VH kind val B.length))++B:=by simp[encI]
  have hlen:(L++Enc (8*num+kind)).length<=1000000:=by rw[List.length_append]; omega
  have hx0:=wX w num kind val b B.length d;have hb0:=(Below.refl _ w).alloc (Nat.le_refl _) (.cells #[Z8 num,Z8 kind,Z7 val,.slice b B.length d] 77);rcases hv.2.2 with⟨rfl,hb⟩ | ⟨rfl,rfl⟩
  · obtain rfl:B=[]:=List.eq_nil_of_length_eq_zero hb;have lQ:VH 0 val ([]:List Int).length=val:=rfl;rw[lQ,List.append_nil] at hfin;have cB:=fun a c w hr=>O4 a c (L++Enc (8*num+0)) val w hlen hr hw;have e8:8*num+0=num*8:=(by omega);rw[e8] at cA hEl hlen hfin;simp only[e8] at cB;clear e8 htb;generalize Enc (num*8)=E1 at *
    generalize L++E1=M at *
    generalize Enc val=E2 at *
    have QE:=Z9 hfin;have HR:=Z9 hr;clear hfin hr hs hv lQ hb;go_enter Tryz.func55,Tryz.ntmps55;go_wp2_with fail;refine(cV _).mono ?_;rintro e w1 ⟨rfl,hb1⟩;have hx:=hx0.below hb1;have hb:=VR hb0 hb1;obtain⟨k0,k1,k2,k3⟩:=hx;have k1':w1.cell? ⟨w.heap.size,1,none⟩=some (Z8 0):=k1;have k2':w1.cell? ⟨w.heap.size,2,none⟩=some (Z7 val):=k2;have hlt:w.heap.size<w1.heap.size:=Box.lt ⟨k0,k1,k2,k3⟩;clear cV hb1 k1 k2 k3 hx0 hb0;go_wp2_with fail;refine(cA _ (ZP HR.out hb)).mono ?_;rintro e w2 ⟨v2,rfl,ho2,hb2⟩;have hb3:=VR hb hb2;have k2:=(hb2.cell (p:=⟨w.heap.size,2,none⟩) hlt).trans k2';have k1:=(hb2.cell (p:=⟨w.heap.size,1,none⟩) hlt).trans k1';obtain⟨a2,c2,rfl,s2,-⟩:=Own.sl ho2;clear k1' k2' k0 hb hb2 ho2 cA;go_wp2_with fail;refine(cB _ _ _ s2).mono ?_;rintro e w3 ⟨v3,rfl,ho3,hb4⟩;have hb5:=VR hb3 hb4;have HO:Hid (Own w3 w.heap.size v3 (L++encI num 0 val [])):=(by rw[QE.out]; exact Z9 (Own.base ho3 hb3.size));clear cB ho3 hb4 s2;go_wp2;go_ret2;exact⟨_,rfl,HO.out,hb5⟩
  · have lQ:VH 2 0 B.length=(B.length:Int):=rfl;rw[lQ] at hfin;have hwB:W64 (B.length:Int):=(by unfold W64; omega);have cB:=fun a c w hr=>O4 a c (L++Enc (8*num+2)) (B.length:Int) w hlen hr hwB;have hE2:=XZ (B.length:Int);have e8:8*num+2=num*8+2:=(by omega);rw[e8] at cA hEl hlen hfin;simp only[e8] at cB;clear e8 htb;generalize Enc (num*8+2)=E1 at *
    generalize L++E1=M at *
    have QE:=Z9 hfin;have HR:=Z9 hr;have HS:=Z9 hs;have hM2:(M++Enc (B.length:Int)).length<=2000000:=(by rw[List.length_append]; omega);generalize M++Enc (B.length:Int)=M2 at *
    obtain⟨i0,hi,hz0,hz1,hz2⟩:=info_parts info5;have HI:=Z9 hi;have HZ0:=Z9 hz0;have HZ1:=Z9 hz1;have HZ2:=Z9 hz2;clear hfin hr hs hv lQ hi hz0 hz1 hz2 hE2;go_enter Tryz.func55,Tryz.ntmps55;go_wp2_with fail;refine(cV _).mono ?_;rintro e w1 ⟨rfl,hb1⟩;have hx:=hx0.below hb1;have hb:=VR hb0 hb1;obtain⟨k0,k1,k2,k3⟩:=hx;have k1':w1.cell? ⟨w.heap.size,1,none⟩=some (Z8 2):=k1;have k3':w1.cell? ⟨w.heap.size,3,none⟩=some (.slice b B.length d):=k3;have hlt:w.heap.size<w1.heap.size:=Box.lt ⟨k0,k1,k2,k3⟩;clear cV hb1 k1 k2 k3 hx0 hb0;go_wp2_with fail;refine(cA _ (ZP HR.out hb)).mono ?_;rintro e w2 ⟨v2,rfl,ho2,hb2⟩;have hb3:=VR hb hb2;have k3:=(hb2.cell (p:=⟨w.heap.size,3,none⟩) hlt).trans k3';have k1:=(hb2.cell (p:=⟨w.heap.size,1,none⟩) hlt).trans k1';have hlt2:w.heap.size<w2.heap.size:=Nat.lt_of_lt_of_le hlt hb2.size;obtain⟨a2,c2,rfl,s2,-⟩:=Own.sl ho2;clear k1' k3' k0 hb hb2 ho2 cA;go_wp2_with fail;have hc1:M2.length+B.length<=140737488355328:=(by omega);have hwr:IntKind.u64.wrap (B.length:Int)=(B.length:Int):=by rw[IntKind.wrap_u64]; omega
    go_region_held3 (fun wx=>wx.cell? ⟨w.heap.size,3,none⟩=some (.slice b B.length d)) (first | exact k6 | exact k5 | exact k3) (first
      | (go_at_call 95; refine(cB _ _ w2.drew s2).mono ?_; rintro e w5 ⟨v5,rfl,mD,hb5⟩; have k5:=(hb5.cell (p:=⟨w.heap.size,3,none⟩) hlt2).trans k3; have hb6:=VR hb3.drew hb5)
      | (refine LV rfl _ _ 54 rfl w2.heap.size i0 Tryz.underlying54 HI.out HZ0.out HZ1.out HZ2.out _ _ _ rfl mD b B.length d B rfl rfl (ZP HS.out hb6) hc1 hb5.size ?_; intro v6 w6 ho6 hgrow; have hb7:=YX (w0:=w) hb3.size hb6.size mD hb6 hgrow; have k6:=dI hgrow mD hlt2 k5))
    have HO:Hid (Own w6 w.heap.size v6 (L++encI num 2 0 B)):=by
      rw[QE.out];show w6.ownsRow _ _ _ _ _ _;rw[List.length_append,List.map_append];exact own_base ho6 hb3.size
    clear cB ho6 hgrow hb6 s2 mD hb5;go_wp2;go_ret2;exact⟨_,rfl,HO.out,hb7⟩
def Fs (w:World)(a:Option Addr)(ps:List (Zj×Value)):Prop:=
  ∀ i p,ps[i]?=some p->∃ b off ba bc,a=some ⟨b,off,none⟩/\p.2=.slice ba p.1.bytes.length bc/\Sl w ba bc p.1.bytes/\Box w b (off+i*4) p.1.num p.1.kind p.1.val ba p.1.bytes.length bc
theorem Zy {P:Program}{ops:Array Oper}{rest:List Oper}{o:Oper}{a:Act}{w:World}{Q:Exit->Act->World->Prop}(hgd:o.guard=none)(d:Option Tmp)(hd:o.dst=d)
    (v:Value) (w2:World) (hr:(execOp a.eval o).run P w=.ok (.value v) w2) (k:wpList P ops Q rest (a.put d v) w2):wpList P ops Q (o::rest) a w:=by
  rw[<- hd] at k;apply wpList_plain hgd;intro K hK;rw[Oper.wp,hr,Oper.upon_value];exact hK _ _ k
theorem end_none {P:Program}{fn:Func}{R:Ending->World->Prop}{a:Act}{w:World}(h:fn.results=#[])(hd:a.defers=[])(hR:R (.returned (.tuple #[])) w):bodyPost P fn R .normal a w:=
  bodyPost_end (results_none h _ _ _) hd hR
theorem Yf {P:Program}{ops:Array Oper}{rest:List Oper}{op:Oper}{a:Act}{w:World}{Q:Exit->Act->World->Prop}(hgd:op.guard=none)(ty:TypeId)(x y:Operand)(ho:op.op=.store ty x y)
    (c c':Array Value) (hx:a.eval x=Z5 w.heap.size 0) (hy:a.eval y=.agg c')
    (hi:(P.info? ty).map (·.size)=some c'.size) (hz:c.size=c'.size) (h1:c'.all (·.oneCell')=true)
    (h:wpList P ops Q rest (a.put op.dst undef) (w.alloc (.cells c' ty))):wpList P ops Q (op::rest) a (w.alloc (.cells c ty)):=
  wpList_plain hgd fun K hK=>by
    unfold Oper.wp execOp;simp only[ho,hx,hy,Sem.run_bind,run_storeAt_new w ty c c' hi hz h1];exact hK _ _ h
theorem ZJ {P:Program}{id:Nat}{Q:Exit->Act->World->Prop}{a:Act}{w:World}{l:List Oper}(C:World->Prop)(hm:P.follows .mixedOrders=true)(hB:Region.lexB .any l.toArray=true)(hC:C { w with drawn:=w.drawn+1 })
    (h:wpQuiet P l.toArray C (fun a'=>∀ w',C w'->Q .normal a' w') l a):(Code.region id l.toArray true).wp P Q a w:=
  wp_region_quiet (C:=C) hm hB hC (by simpa using h)
theorem pu1 (a:Act)(t:Tmp)(v:Value):a.put (some t) v={ a with tmps:=a.tmps.setIfInBounds t v }:=rfl
theorem pu2 {α:Type}(l:List α)(i:Nat)(x:α):l.toArray.setIfInBounds i x=(l.set i x).toArray:=List.setIfInBounds_toArray ..
theorem Pv {α:Type}(l:List α)(i:Nat)(x y:α):(x::l).set (i+1) y=x::l.set i y:=rfl
theorem Pq {α:Type}(l:List α)(x y:α):(x::l).set 0 y=y::l:=rfl
theorem Zh {P:Program}{w:World}{ops:Array Oper}{rest:List Oper}{o:Oper}{a:Act}{Q:Exit->Act->World->Prop}(hgd:o.guard=none)(d:Option Tmp)(hd:o.dst=d)(ty:TypeId)(hty:o.type=ty)(s x:Operand)(t:TypeId)
    (ho:o.op=.call { callee:=.builtin .append,args:=#[s,x],argTypes:=#[t,t] }) (v u v':Value) (w':World) (hs:a.eval s=v) (hx:a.eval x=u)
    (hr:(Builtin.append_ #[t,t] ty #[v,u]).run P w=.ok v' w') (k:wpList P ops Q rest (a.put d v') w'):wpList P ops Q (o::rest) a w:=by
  subst hd;subst hty;refine wpList_plain hgd fun K hK=>?_;unfold Oper.wp execOp;simp only[ho,resolve,invoke,builtin,Sem.run_bind,Sem.run_pure,Result.andThen_ok,List.map_toArray,List.map_cons,List.map_nil,hs,hx,hr];exact hK _ _ k
section
variable {P : Program} {ops : Array Oper} {rest : List Oper} {o : Oper} {a : Act} {w : World} {Q : Exit -> Act -> World -> Prop}
theorem YW (hw:Region.wanted o (yielded ops a.tmps)=true)(d:Option Tmp)(hd:o.dst=d)(v:Value)(hr:(execOp a.eval o).run P w=.ok (.value v) w)(k:wpList P ops Q rest (a.put d v) w):wpList P ops Q (o::rest) a w:=by
  rw[<- hd] at k;apply wpList_step;intro K hK;rw[if_pos hw,Oper.wp,hr,Oper.upon_value];exact hK _ _ k
theorem O6 (hw:Region.wanted o (yielded ops a.tmps)=true)(d:Option Tmp)(hd:o.dst=d)(v:Value)(w2:World)(hr:(execOp a.eval o).run P w=.ok (.value v) w2)(k:wpList P ops Q rest (a.put d v) w2):wpList P ops Q (o::rest) a w:=by
  rw[<- hd] at k;apply wpList_step;intro K hK;rw[if_pos hw,Oper.wp,hr,Oper.upon_value];exact hK _ _ k
theorem am1 (hw:Region.wanted o (yielded ops a.tmps)=false)(d:Option Tmp)(hd:o.dst=d)(k:wpList P ops Q rest (a.put d undef) w):wpList P ops Q (o::rest) a w:=by
  rw[<- hd] at k;exact wpList_skip hw k
theorem TV (hw:Region.wanted o (yielded ops a.tmps)=true)(d:Option Tmp)(hd:o.dst=d)(f:FuncId)(args:Array Value)(v:Value)(S:World->Prop)(hr:(execOp a.eval o).run P w=.ok (.enter f args) w)
    (hc:Calls P f args w fun e w'=>e=.returned v/\S w') (k:∀ w',S w'->wpList P ops Q rest (a.put d v) w'):wpList P ops Q (o::rest) a w:=by
  rw[<- hd] at k;apply wpList_step;intro K hK;rw[if_pos hw,Oper.wp,hr];refine hc.mono ?_;rintro e w' ⟨rfl,hS⟩;exact hK _ _ (k w' hS)
theorem Qc (hw:Region.wanted o (yielded ops a.tmps)=true)(d:Option Tmp)(hd:o.dst=d)(ty:TypeId)(x:Operand)(ho:o.op=.load ty x)(ad:Addr)(v:Value)
    (hx:a.eval x=.pointer (some ad)) (hl:(Instr.loadAt ty (.pointer (some ad))).run P w=.ok v w) (k:wpList P ops Q rest (a.put d v) w):wpList P ops Q (o::rest) a w:=by
  refine YW hw d hd v ?_ k;unfold execOp;simp only[ho,hx,Sem.run_bind,hl];rfl
theorem MK (hw:Region.wanted o (yielded ops a.tmps)=true)(d:Option Tmp)(hd:o.dst=d)(ty:TypeId)(x h:Operand)(ho:o.op=.slice ty x none (some h) none)(vx vh v:Value)(hx:a.eval x=vx)(hh:a.eval h=vh)
    (hs:(Instr.sliceAt ty vx none (some vh) none).run P w=.ok v w) (k:wpList P ops Q rest (a.put d v) w):wpList P ops Q (o::rest) a w:=by
  refine YW hw d hd v ?_ k;unfold execOp;simp only[ho,hx,hh,Option.map_some,Option.map_none,Sem.run_bind,hs];rfl
theorem Zv (hw:Region.wanted o (yielded ops a.tmps)=true)(d:Option Tmp)(hd:o.dst=d)(t:TypeId)(len:Nat)(parts:Array (Nat×Operand))(ho:o.op=.buildSlice t len parts)
    (vs:Array (Nat×Value)) (hp:(parts.map fun(i,x)=>(i,a.eval x))=vs) (v:Value) (w2:World) (hr:(Instr.buildSlice t len vs).run P w=.ok v w2) (k:wpList P ops Q rest (a.put d v) w2):wpList P ops Q (o::rest) a w:=by
  refine O6 hw d hd v w2 ?_ k;unfold execOp;simp only[ho,Sem.run_bind,hp,hr,Result.andThen_ok];rfl
end
section
variable {P : Program} {C : World -> Prop} {ops : Array Oper} {Q : Act -> Prop} {a : Act} {o : Oper} {rest : List Oper}
theorem Uu (hw:Region.wanted o (yielded ops a.tmps)=true)(d:Option Tmp)(hd:o.dst=d)(v:Value)(hr:∀ w,C w->(execOp a.eval o).run P w=.ok (.value v) w)(h:wpQuiet P ops C Q rest (a.put d v)):wpQuiet P ops C Q (o::rest) a:=by
  rw[<- hd] at h;unfold wpQuiet;rw[if_pos hw];refine⟨v,fun w hC=>?_,h⟩;unfold Oper.quietAt;rw[hr w hC];exact⟨rfl,rfl⟩
theorem am2 (hw:Region.wanted o (yielded ops a.tmps)=false)(d:Option Tmp)(hd:o.dst=d)(h:wpQuiet P ops C Q rest (a.put d undef)):wpQuiet P ops C Q (o::rest) a:=by
  rw[<- hd] at h;unfold wpQuiet;rw[if_neg (by rw[hw]; decide)];exact h
theorem Vy (hw:Region.wanted o (yielded ops a.tmps)=true)(d:Option Tmp)(hd:o.dst=d)(f:FuncId)(args:Array Value)(v:Value)(hr:∀ w,C w->(execOp a.eval o).run P w=.ok (.enter f args) w)
    (hc:∀ w,C w->Calls P f args w (fun e w''=>e=.returned v/\C w'')) (h:wpQuiet P ops C Q rest (a.put d v)):wpQuiet P ops C Q (o::rest) a:=by
  rw[<- hd] at h;unfold wpQuiet;rw[if_pos hw];refine⟨v,fun w hC=>?_,h⟩;unfold Oper.quietAt;rw[hr w hC];exact⟨rfl,hc w hC⟩
theorem dH (hw:Region.wanted o (yielded ops a.tmps)=true)(d:Option Tmp)(hd:o.dst=d)(ty:TypeId)(x:Operand)(ho:o.op=.load ty x)(ad:Addr)(v:Value)
    (hx:a.eval x=.pointer (some ad)) (hl:∀ w,C w->(Instr.loadAt ty (.pointer (some ad))).run P w=.ok v w) (h:wpQuiet P ops C Q rest (a.put d v)):wpQuiet P ops C Q (o::rest) a:=by
  refine Uu hw d hd v (fun w hC=>?_) h;unfold execOp;simp only[ho,hx,Sem.run_bind,hl w hC];rfl
end
theorem lJ {P:Program}{ops:Array Oper}{rest:List Oper}{o:Oper}{a:Act}{w:World}{Q:Exit->Act->World->Prop}(hw:Region.wanted o (yielded ops a.tmps)=true)(d:Option Tmp)(hd:o.dst=d)(f:FuncId)(args:Array Value)(S:Value->World->Prop)(hr:(execOp a.eval o).run P w=.ok (.enter f args) w)
    (hc:Calls P f args w fun e w'=>∃ v,e=.returned v/\S v w') (k:∀ v w',S v w'->wpList P ops Q rest (a.put d v) w'):wpList P ops Q (o::rest) a w:=by
  rw[<- hd] at k;apply wpList_step;intro K hK;rw[if_pos hw,Oper.wp,hr];refine hc.mono ?_;rintro e w' ⟨v,rfl,hS⟩;exact hK _ _ (k v w' hS)
theorem MJ {P:Program}{ops:Array Oper}{rest:List Oper}{o:Oper}{a:Act}{w:World}{Q:Exit->Act->World->Prop}(hw:Region.wanted o (yielded ops a.tmps)=true)(d:Option Tmp)(hd:o.dst=d)(ty:TypeId)(x l:Operand)(ho:o.op=.slice ty x (some l) none none)(vx vl v:Value)(hx:a.eval x=vx)(hl:a.eval l=vl)
    (hs:(Instr.sliceAt ty vx (some vl) none none).run P w=.ok v w) (k:wpList P ops Q rest (a.put d v) w):wpList P ops Q (o::rest) a w:=by
  refine YW hw d hd v ?_ k;unfold execOp;simp only[ho,hx,hl,Option.map_some,Option.map_none,Sem.run_bind,hs];rfl
section
variable {P : Program} {Q : Exit -> Act -> World -> Prop} {ops : Array Oper}
def ad4 (ops:Array Oper):Bool:=(List.range ops.size).all fun i=>((ops[i]?).map fun o=>o.after.all fun e=>!Region.binds .any e || decide (e.on<i)).getD true
theorem zB {listed:Array Bool}(hb:ad4 ops=true)(hs:listed.size=ops.size)(h:Region.ready .any ops listed=[]):listed=Array.replicate ops.size true:=by
  have key:∀ i,i<ops.size->listed.getD i false=true:=by
    intro i;induction i using Nat.strongRecOn with
    | ind i ih=>
      intro hi;by_cases hl:listed.getD i false=true
      · exact hl
      · exfalso;have hlt:i<listed.size:=(by omega);have hl2:listed.getD i true=false:=by
          simp only[Array.getD,hlt,dif_pos] at hl ⊢;simpa using hl
        have hm:i∈Region.ready .any ops listed:=by
          rw[mem_ready];refine⟨hl2,ops[i],by simp[hi],fun e he hbe=>?_⟩;have hbi:=List.all_eq_true.1 hb i (List.mem_range.2 hi);rw[Array.getElem?_eq_getElem hi] at hbi;have hlt2:e.on<i:=by
            have:=(Array.all_eq_true_iff_forall_mem.1 hbi) e he;rw[hbe] at this;simpa using this
          exact ih e.on hlt2 (by omega)
        rw[h] at hm;cases hm
  apply Array.ext
  · rw[hs]; simp
  · intro i h1 h2;have:=key i (by omega);simp only[Array.getD,h1,dif_pos] at this;simpa using this
theorem Zw {id:Nat}{a:Act}{w:World}(J:Array Bool->Act->World->Prop)(hm:P.follows .mixedOrders=true)(hb:ad4 ops=true)
    (h0:J (Array.replicate ops.size false) a { w with drawn:=w.drawn+1 })
    (hstep:∀ i listed a w,i<ops.size->i∈Region.ready .any ops listed->J listed a w->wpOp P ops Q i (J (listed.setIfInBounds i true)) a w)
    (hend:∀ a w,J (Array.replicate ops.size true) a w->Q .normal a w):(Code.region id ops true).wp P Q a w:=by
  refine wp_region_any hm ?_;have key:∀ (fuel:Nat) (listed:Array Bool) (a:Act) (w:World),listed.size=ops.size->listed.count false<=fuel->J listed a w->wpAny P .any ops Q fuel listed a w:=by
    intro fuel;induction fuel with
    | zero=>
      intro listed a w hs hc hJ;have hall:listed=Array.replicate ops.size true:=by
        apply Array.ext
        · rw[hs]; simp
        · intro i h1 h2;have h3:false ∉ listed:=Array.count_eq_zero.1 (by omega);have h4:listed[i]≠false:=fun h=>h3 (h ▸ Array.getElem_mem h1);simpa using h4
      have hr:Region.ready .any ops listed=[]:=by
        rw[List.eq_nil_iff_forall_not_mem];intro j hj;obtain⟨h1,o,ho,-⟩:=mem_ready.1 hj;have hjs:j<ops.size:=(Array.getElem?_eq_some_iff.1 ho).1;rw[hall] at h1;simp[hjs] at h1
      exact⟨hr,hend _ _ (hall ▸ hJ)⟩
    | succ fuel ih=>
      intro listed a w hs hc hJ;refine⟨fun h=>hend _ _ ?_,fun i hi=>?_⟩
      · rw[<- zB hb hs h]; exact hJ
      · obtain⟨h1,o,ho,-⟩:=mem_ready.1 hi;have his:i<ops.size:=(Array.getElem?_eq_some_iff.1 ho).1;refine wpOp_mono (fun a' w' hJ'=>ih _ a' w' (by rw[Array.size_setIfInBounds]; exact hs) ?_ hJ') (hstep i listed a w his hi hJ);have hil:i<listed.size:=(by omega);have hf:listed[i]=false:=by
          simp only[Array.getD,hil,dif_pos] at h1;exact h1
        rw[Array.setIfInBounds_def,dif_pos hil,Array.count_set,hf];have:0<listed.count false:=Array.count_pos_iff.2 (hf ▸ Array.getElem_mem hil);simp;omega
  refine key _ _ _ _ (by simp) ?_ h0;rw[Array.count_replicate];simp
theorem ZX {i:Nat}{listed:Array Bool}(h:i∈Region.ready .any ops listed)(k:Nat)(hk:((ops[i]?).map fun o=>o.after.any fun e=>Region.binds .any e && e.on == k).getD false=true:=by kernel_rfl):listed.getD k false=true:=by
  obtain⟨-,o,ho,hall⟩:=mem_ready.1 h;rw[ho] at hk;simp only[Option.map_some,Option.getD_some] at hk;obtain⟨j,hj,hk⟩:=Array.any_eq_true.1 hk;simp only[Bool.and_eq_true,beq_iff_eq] at hk;rw[<- hk.2];exact hall _ (Array.getElem_mem hj) hk.1
theorem Z4 {i:Nat}{listed:Array Bool}(h:i∈Region.ready .any ops listed):listed.getD i true=false:=(mem_ready.1 h).1
variable {i : Nat} {o : Oper} {a : Act} {w : World} {K : Act -> World -> Prop}
theorem EC (hi:ops[i]?=some o)(hw:Region.wanted o (yielded ops a.tmps)=true)(h:Oper.wp P o a w K Q):wpOp P ops Q i K a w:=by
  unfold wpOp;rw[hi];simp only;rw[if_pos hw];exact .inl h
theorem Rt (hi:ops[i]?=some o)(hw:Region.wanted o (yielded ops a.tmps)=false)(h:K (a.put o.dst undef) w):wpOp P ops Q i K a w:=by
  unfold wpOp;rw[hi];simp only;rw[if_neg (by rw[hw]; decide)];exact h
theorem ZK (hi:ops[i]?=some o)(hw:Region.wanted o (yielded ops a.tmps)=true)(d:Option Tmp)(hd:o.dst=d)(v:Value)(w2:World)(hr:(execOp a.eval o).run P w=.ok (.value v) w2)(h:K (a.put d v) w2):wpOp P ops Q i K a w:=by
  rw[<- hd] at h;refine EC hi hw ?_;rw[Oper.wp,hr,Oper.upon_value];exact h
theorem X8 (hi:ops[i]?=some o)(hw:Region.wanted o (yielded ops a.tmps)=true)(d:Option Tmp)(hd:o.dst=d)(f:FuncId)(args:Array Value)(hr:(execOp a.eval o).run P w=.ok (.enter f args) w)
    (hc:Calls P f args w fun e w'=>∃ v,e=.returned v/\K (a.put d v) w'):wpOp P ops Q i K a w:=by
  rw[<- hd] at hc;refine EC hi hw ?_;rw[Oper.wp,hr];refine hc.mono ?_;rintro e w' ⟨v,rfl,h⟩;exact h
theorem Zu (hi:ops[i]?=some o)(hw:Region.wanted o (yielded ops a.tmps)=true)(d:Option Tmp)(hd:o.dst=d)(ty:TypeId)(x:Operand)(ho:o.op=.load ty x)(ad:Addr)(v:Value)
    (hx:a.eval x=.pointer (some ad)) (hl:(Instr.loadAt ty (.pointer (some ad))).run P w=.ok v w) (h:K (a.put d v) w):wpOp P ops Q i K a w:=by
  refine ZK hi hw d hd v w ?_ h;unfold execOp;simp only[ho,hx,Sem.run_bind,hl];rfl
theorem MR (hi:ops[i]?=some o)(hw:Region.wanted o (yielded ops a.tmps)=true)(d:Option Tmp)(hd:o.dst=d)(ty:TypeId)(x y:Operand)(ho:o.op=.slice ty x none (some y) none)(vx vh v:Value)(hx:a.eval x=vx)(hh:a.eval y=vh)
    (hs:(Instr.sliceAt ty vx none (some vh) none).run P w=.ok v w) (h:K (a.put d v) w):wpOp P ops Q i K a w:=by
  refine ZK hi hw d hd v w ?_ h;unfold execOp;simp only[ho,hx,hh,Option.map_some,Option.map_none,Sem.run_bind,hs];rfl
theorem VB (hi:ops[i]?=some o)(hw:Region.wanted o (yielded ops a.tmps)=true)(d:Option Tmp)(hd:o.dst=d)(ty:TypeId)(x y:Operand)(ho:o.op=.slice ty x (some y) none none)(vx vh v:Value)(hx:a.eval x=vx)(hh:a.eval y=vh)
    (hs:(Instr.sliceAt ty vx (some vh) none none).run P w=.ok v w) (h:K (a.put d v) w):wpOp P ops Q i K a w:=by
  refine ZK hi hw d hd v w ?_ h;unfold execOp;simp only[ho,hx,hh,Option.map_some,Option.map_none,Sem.run_bind,hs];rfl
theorem UE (hi:ops[i]?=some o)(hw:Region.wanted o (yielded ops a.tmps)=true)(d:Option Tmp)(hd:o.dst=d)(t:TypeId)(len:Nat)(parts:Array (Nat×Operand))(ho:o.op=.buildSlice t len parts)
    (vs:Array (Nat×Value)) (hp:(parts.map fun(i,x)=>(i,a.eval x))=vs) (v:Value) (w2:World) (hr:(Instr.buildSlice t len vs).run P w=.ok v w2) (h:K (a.put d v) w2):wpOp P ops Q i K a w:=by
  refine ZK hi hw d hd v w2 ?_ h;unfold execOp;simp only[ho,Sem.run_bind,hp,hr,Result.andThen_ok];rfl
theorem VL (hi:ops[i]?=some o)(hw:Region.wanted o (yielded ops a.tmps)=true)(d:Option Tmp)(hd:o.dst=d)(ty:TypeId)(hty:o.type=ty)(s x:Operand)(t:TypeId)
    (ho:o.op=.call { callee:=.builtin .append,args:=#[s,x],argTypes:=#[t,t] }) (v u v':Value) (w':World) (hs:a.eval s=v) (hx:a.eval x=u)
    (hr:(Builtin.append_ #[t,t] ty #[v,u]).run P w=.ok v' w') (h:K (a.put d v') w'):wpOp P ops Q i K a w:=by
  subst hd;subst hty;refine EC hi hw ?_;unfold Oper.wp execOp;simp only[ho,resolve,invoke,builtin,Sem.run_bind,Sem.run_pure,Result.andThen_ok,List.map_toArray,List.map_cons,List.map_nil,hs,hx,hr];exact h
end
theorem pu:(∀ (a:Act) (t:Tmp) (v:Value),a.put (some t) v={ a with tmps:=a.tmps.setIfInBounds t v })/\(∀ (l:List Value) (i:Nat) (x:Value),l.toArray.setIfInBounds i x=(l.set i x).toArray)/\(∀ (x:Value) (l:List Value) (n:Nat) (v:Value),(x::l).set (n+1) v=x::l.set n v)/\(∀ (x:Value) (l:List Value) (v:Value),(x::l).set 0 v=v::l):=
  ⟨fun _ _ _=>rfl,fun _ _ _=>List.setIfInBounds_toArray ..,fun _ _ _ _=>rfl,fun _ _ _=>rfl⟩
section
variable {P : Program} {ops : Array Oper} {rest : List Oper} {o o1 o2 o3 o4 o5 o6 o7 o8 : Oper} {a : Act} {w : World} {Q : Exit -> Act -> World -> Prop}
def JW (P:Program)(ops:Array Oper):List Oper->Act->World->Option (Act×World)
  | [],a,w=>some (a,w)
  | o::l,a,w=>bif Region.wanted o (yielded ops a.tmps) then
      match (execOp a.eval o).run P w with
      | .ok (.value v) w'=>JW P ops l (a.put o.dst v) w'
      | _=>none
    else JW P ops l (a.put o.dst undef) w
theorem TU:∀ (l:List Oper) (a:Act) (w:World) (a':Act) (w':World),JW P ops l a w=some (a',w')->wpList P ops Q rest a' w'->wpList P ops Q (l++rest) a w
  | [],a,w,a',w',h,k=>by
    simp only[JW,Option.some.injEq,Prod.mk.injEq] at h;obtain⟨rfl,rfl⟩:=h;exact k
  | o::l,a,w,a',w',h,k=>by
    unfold JW at h;cases hw:Region.wanted o (yielded ops a.tmps) with
    | true=>
      rw[hw,cond_true] at h
      split at h
      · rename_i v w2 hr
        exact O6 hw o.dst rfl v w2 hr (TU l _ _ a' w' h k)
      · exact absurd h (by simp)
    | false=>
      rw[hw,cond_false] at h;exact am1 hw o.dst rfl (TU l _ _ a' w' h k)
theorem ZV {d1:Option Tmp}(v1:Value)(k:wpList P ops Q rest (a.put d1 v1) w)(e1:o1.dst=d1:=by rfl)(h:JW P ops [o1] a w=some ((a.put d1 v1),w):=by kernel_rfl):wpList P ops Q (o1::rest) a w:=by
  subst e1;exact TU [o1] a w _ _ h k
theorem ZB {d1 d2:Option Tmp}(v1 v2:Value)(k:wpList P ops Q rest ((a.put d1 v1).put d2 v2) w)(e1:o1.dst=d1:=by rfl)(e2:o2.dst=d2:=by rfl)(h:JW P ops [o1,o2] a w=some (((a.put d1 v1).put d2 v2),w):=by kernel_rfl):wpList P ops Q (o1::o2::rest) a w:=by
  subst e1 e2;exact TU [o1,o2] a w _ _ h k
theorem Yr {d1 d2 d3:Option Tmp}(v1 v2 v3:Value)(k:wpList P ops Q rest (((a.put d1 v1).put d2 v2).put d3 v3) w)(e1:o1.dst=d1:=by rfl)(e2:o2.dst=d2:=by rfl)(e3:o3.dst=d3:=by rfl)(h:JW P ops [o1,o2,o3] a w=some ((((a.put d1 v1).put d2 v2).put d3 v3),w):=by kernel_rfl):wpList P ops Q (o1::o2::o3::rest) a w:=by
  subst e1 e2 e3;exact TU [o1,o2,o3] a w _ _ h k
theorem U8 {d1 d2 d3 d4:Option Tmp}(v1 v2 v3 v4:Value)(k:wpList P ops Q rest ((((a.put d1 v1).put d2 v2).put d3 v3).put d4 v4) w)(e1:o1.dst=d1:=by rfl)(e2:o2.dst=d2:=by rfl)(e3:o3.dst=d3:=by rfl)(e4:o4.dst=d4:=by rfl)(h:JW P ops [o1,o2,o3,o4] a w=some (((((a.put d1 v1).put d2 v2).put d3 v3).put d4 v4),w):=by kernel_rfl):wpList P ops Q (o1::o2::o3::o4::rest) a w:=by
  subst e1 e2 e3 e4;exact TU [o1,o2,o3,o4] a w _ _ h k
theorem Rf {d1 d2 d3 d4 d5:Option Tmp}(v1 v2 v3 v4 v5:Value)(k:wpList P ops Q rest (((((a.put d1 v1).put d2 v2).put d3 v3).put d4 v4).put d5 v5) w)(e1:o1.dst=d1:=by rfl)(e2:o2.dst=d2:=by rfl)(e3:o3.dst=d3:=by rfl)(e4:o4.dst=d4:=by rfl)(e5:o5.dst=d5:=by rfl)(h:JW P ops [o1,o2,o3,o4,o5] a w=some ((((((a.put d1 v1).put d2 v2).put d3 v3).put d4 v4).put d5 v5),w):=by kernel_rfl):wpList P ops Q (o1::o2::o3::o4::o5::rest) a w:=by
  subst e1 e2 e3 e4 e5;exact TU [o1,o2,o3,o4,o5] a w _ _ h k
theorem Y0 {d1 d2 d3 d4 d5 d6:Option Tmp}(v1 v2 v3 v4 v5 v6:Value)(k:wpList P ops Q rest ((((((a.put d1 v1).put d2 v2).put d3 v3).put d4 v4).put d5 v5).put d6 v6) w)(e1:o1.dst=d1:=by rfl)(e2:o2.dst=d2:=by rfl)(e3:o3.dst=d3:=by rfl)(e4:o4.dst=d4:=by rfl)(e5:o5.dst=d5:=by rfl)(e6:o6.dst=d6:=by rfl)(h:JW P ops [o1,o2,o3,o4,o5,o6] a w=some (((((((a.put d1 v1).put d2 v2).put d3 v3).put d4 v4).put d5 v5).put d6 v6),w):=by kernel_rfl):wpList P ops Q (o1::o2::o3::o4::o5::o6::rest) a w:=by
  subst e1 e2 e3 e4 e5 e6;exact TU [o1,o2,o3,o4,o5,o6] a w _ _ h k
theorem YI {d:Option Tmp}(v:Value)(hr:(execOp a.eval o).run P w=.ok (.value v) w)(k:wpList P ops Q rest (a.put d v) w)(hd:o.dst=d:=by rfl)(hw:Region.wanted o (yielded ops a.tmps)=true:=by kernel_rfl):wpList P ops Q (o::rest) a w:=YW hw d hd v hr k
theorem ZL {d:Option Tmp}{ty:TypeId}{x:Operand}(ho:o.op=.load ty x)(ad:Addr)(v:Value)(hl:(Instr.loadAt ty (.pointer (some ad))).run P w=.ok v w)(k:wpList P ops Q rest (a.put d v) w)(hd:o.dst=d:=by rfl)(hw:Region.wanted o (yielded ops a.tmps)=true:=by kernel_rfl)(hx:a.eval x=.pointer (some ad):=by kernel_rfl):wpList P ops Q (o::rest) a w:=Qc hw d hd ty x ho ad v hx hl k
theorem YM {d:Option Tmp}(v:Value)(S:World->Prop){f:FuncId}{args:Array Value}(hc:Calls P f args w fun e w'=>e=.returned v/\S w')(k:∀ w',S w'->wpList P ops Q rest (a.put d v) w')(hd:o.dst=d:=by rfl)(hw:Region.wanted o (yielded ops a.tmps)=true:=by kernel_rfl)(hr:(execOp a.eval o).run P w=.ok (.enter f args) w:=by kernel_rfl):wpList P ops Q (o::rest) a w:=TV hw d hd f args v S hr hc k
theorem XI {d:Option Tmp}(S:Value->World->Prop){f:FuncId}{args:Array Value}(hc:Calls P f args w fun e w'=>∃ v,e=.returned v/\S v w')(k:∀ v w',S v w'->wpList P ops Q rest (a.put d v) w')(hd:o.dst=d:=by rfl)(hw:Region.wanted o (yielded ops a.tmps)=true:=by kernel_rfl)(hr:(execOp a.eval o).run P w=.ok (.enter f args) w:=by kernel_rfl):wpList P ops Q (o::rest) a w:=lJ hw d hd f args S hr hc k
theorem Yn {d:Option Tmp}{x y:Operand}{X Y:Value}(v:Value)(hr:a.eval x=X->a.eval y=Y->∀ w,(execOp a.eval o).run P w=.ok (.value v) w)(k:wpList P ops Q rest (a.put d v) w)(hd:o.dst=d:=by rfl)(hw:Region.wanted o (yielded ops a.tmps)=true:=by kernel_rfl)(hx:a.eval x=X:=by kernel_rfl)(hy:a.eval y=Y:=by kernel_rfl):wpList P ops Q (o::rest) a w:=YW hw d hd v (hr hx hy w) k
theorem ZM {d:Option Tmp}{x y:Operand}{X Y v:Value}(hr:a.eval x=X->a.eval y=Y->∀ w,(execOp a.eval o).run P w=.ok (.value v) w)(k:wpList P ops Q rest (a.put d v) w)(hd:o.dst=d:=by rfl)(hw:Region.wanted o (yielded ops a.tmps)=true:=by kernel_rfl)(hx:a.eval x=X:=by kernel_rfl)(hy:a.eval y=Y:=by kernel_rfl):wpList P ops Q (o::rest) a w:=YW hw d hd v (hr hx hy w) k
theorem dT {p:Prop}[Decidable p](h:p:=by omega):decide p=true:=decide_eq_true h
theorem dF {p:Prop}[Decidable p](h:¬p:=by omega):decide p=false:=decide_eq_false h
theorem wl {id:Nat}{l:List Oper}(h:wpList P l.toArray Q l a w):(Code.region id l.toArray false).wp P Q a w:=wp_region_lit h
theorem wn (h:Q .normal a w):wpList P ops Q [] a w:=wpList_nil h
end
section
variable {P : Program} {C : World -> Prop} {ops : Array Oper} {Q : Act -> Prop} {a : Act} {o : Oper} {rest : List Oper}
theorem gy {d:Option Tmp}(v:Value)(k:wpQuiet P ops C Q rest (a.put d v))(hd:o.dst=d:=by rfl)(hw:Region.wanted o (yielded ops a.tmps)=true:=by kernel_rfl)(hr:∀ w,(execOp a.eval o).run P w=.ok (.value v) w:=by intro w; kernel_rfl):wpQuiet P ops C Q (o::rest) a:=Uu hw d hd v (fun w _=>hr w) k
theorem UM {d:Option Tmp}(k:wpQuiet P ops C Q rest (a.put d undef))(hd:o.dst=d:=by rfl)(hw:Region.wanted o (yielded ops a.tmps)=false:=by kernel_rfl):wpQuiet P ops C Q (o::rest) a:=am2 hw d hd k
theorem XK {d:Option Tmp}(v:Value)(hr:∀ w,C w->(execOp a.eval o).run P w=.ok (.value v) w)(k:wpQuiet P ops C Q rest (a.put d v))(hd:o.dst=d:=by rfl)(hw:Region.wanted o (yielded ops a.tmps)=true:=by kernel_rfl):wpQuiet P ops C Q (o::rest) a:=Uu hw d hd v hr k
theorem U7 {d:Option Tmp}{ty:TypeId}{x:Operand}(ho:o.op=.load ty x)(ad:Addr)(v:Value)(hl:∀ w,C w->(Instr.loadAt ty (.pointer (some ad))).run P w=.ok v w)(k:wpQuiet P ops C Q rest (a.put d v))(hd:o.dst=d:=by rfl)(hw:Region.wanted o (yielded ops a.tmps)=true:=by kernel_rfl)(hx:a.eval x=.pointer (some ad):=by kernel_rfl):wpQuiet P ops C Q (o::rest) a:=dH hw d hd ty x ho ad v hx hl k
end
def nums (s:ByteArray):List Int:=s.data.toList.map fun x=>(x.toNat:Int)
theorem Zf (s:ByteArray):(nums s).length=s.size:=by
 unfold nums;rw[List.length_map,Array.length_toList];rfl
theorem wW (s:ByteArray)(i:Nat)(h:i<s.size):(nums s).getD i 0=((s[i]'h).toNat:Int):=by
 have h2:i<s.data.toList.length:=by rw[Array.length_toList]; exact h
 unfold nums;rw[getD_lt _ i 0 (by simpa using h2),List.getElem_map];rfl
theorem uO (s:ByteArray):∀ x,x∈nums s->W8 x:=by
 intro x hx;obtain⟨b,-,rfl⟩:=List.mem_map.1 hx;have:=b.toNat_lt;exact⟨by omega,by omega⟩
theorem QI (L:List Int)(h:∀ x,x∈L->W8 x):nums (strOfNums L)=L:=by
 unfold nums;rw[strOfNums_data,List.map_map]
 conv=>rhs; rw[<- List.map_id L]
 apply List.map_congr_left;intro x hx;obtain⟨h0,h1⟩:=h x hx;simp;omega
theorem SH (s:ByteArray):strOfNums (nums s)=s:=by
 apply ByteArray.ext;apply Array.toList_inj.1;rw[strOfNums_data,nums,List.map_map]
 conv=>rhs; rw[<- List.map_id s.data.toList]
 apply List.map_congr_left;intro x _;simp
theorem uo (s:ByteArray)(i:Nat)(h:i<s.size)(w:World):(Instr.index 9 (.string s) (Z8 (i:Int))).run Tryz.prog w=.ok (.int .u8 ((nums s).getD i 0)) w:=by
 have hc:0<=(i:Int)/\(i:Int)<s.size:=by omega
 rw[run_index_string _ _ _ _ _ Tryz.underlying9,dif_pos hc,wW s i h];rfl
end Go.Proofs.YtfpnnmeblefkkaaGreatDoor
