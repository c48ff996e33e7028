/-
  Texts joined.
-/
import Derived.Test.YtfpnnmeblefkkaaGreatDoorD1
import Derived.Lib.AppendZeros
import Derived.Deep.Onto
import Derived.Deep.RegionHeld3
import Derived.Lib.LazyBuf
set_option maxRecDepth 100000
set_option maxHeartbeats 8000000
set_option linter.unusedSimpArgs false
set_option linter.unusedVariables false
namespace Go.Proofs.YtfpnnmeblefkkaaGreatDoor
open Go.RowKit
theorem info25:(Tryz.prog.info? 77).map (fun i=>(i.zero,i.size,i.bytes))=some (some (.agg #[Z8 0,Z8 0,Z7 0,.slice none 0 0]),4,48):=by kernel_rfl
theorem info22:(Tryz.prog.info? 54).map (fun i=>(i.zero,i.size,i.bytes))=some (some (.slice none 0 0),1,24):=by kernel_rfl
theorem getD_lt {α:Type}(l:List α)(k:Nat)(d:α)(h:k<l.length):l.getD k d=l[k]:=by rw[List.getD_eq_getElem?_getD,List.getElem?_eq_getElem h]; rfl
theorem Tv {w:World}{B e s n c:Nat}{a:Option Addr}{xs:List Value}(h:w.ownsRow B e s (.slice a n c) n xs)(hn:0<n):∃ g,a=some ⟨g,0,none⟩/\B<=g/\g<w.heap.size:=by
  rcases h.2 with⟨_,h0⟩ | ⟨g,cap,cur,e,hb,hg,_⟩
  · omega
  · simp only[Value.slice.injEq] at e;exact⟨g,e.1,hb,(Array.getElem?_eq_some_iff.1 hg).1⟩
theorem own_base {w:World}{B B' e size n:Nat}{v:Value}{xs:List Value}(h:w.ownsRow B' e size v n xs)(hB:B<=B'):w.ownsRow B e size v n xs:=
  ⟨h.1,h.2.imp id (fun⟨g,cap,cur,a,b,c⟩=>⟨g,cap,cur,a,Nat.le_trans hB b,c⟩)⟩
theorem own_below {w w':World}{B e size n:Nat}{v:Value}{xs:List Value}(h:w.ownsRow B e size v n xs)(hb:Below w.heap.size w w'):w'.ownsRow B e size v n xs:=by
  refine⟨h.1,?_⟩;rcases h.2 with hn | ⟨g,cap,cur,rfl,hg,hgg,rest⟩
  · exact .inl hn
  · exact .inr ⟨g,cap,cur,rfl,hg,by rw[hb.block g (Array.getElem?_eq_some_iff.1 hgg).1]; exact hgg,rest⟩
theorem own_ne {w:World}{B B' e e' size size' n n':Nat}{v v':Value}{xs xs':List Value}(h:w.ownsRow B e size v n xs)(h':w.ownsRow B' e' size' v' n' xs')(hne:e≠e'):v.ownBlock=none∨v.ownBlock≠v'.ownBlock:=by
  rcases h.2 with⟨rfl,_⟩ | ⟨g,cap,cur,rfl,_,hgg,_⟩
  · exact .inl rfl
  · rcases h'.2 with⟨rfl,_⟩ | ⟨g',cap',cur',rfl,_,hgg',_⟩
    · exact .inr (by simp[Value.ownBlock])
    · refine .inr fun he=>?_;simp only[Value.ownBlock,Option.some.injEq] at he;subst he;rw[hgg] at hgg';simp only[Option.some.injEq,Obj.cells.injEq] at hgg';exact hne hgg'.2.1
theorem FZ {w:World}{a:Option Addr}{c:Nat}{M:List Int}(h:Sl w a c M)(n:Nat):Sl w a c (M.take n):=by
  rcases h with⟨rfl,rfl,rfl⟩ | ⟨x,rfl,hx⟩
  · exact .inl ⟨rfl,rfl,by simp⟩
  · refine .inr ⟨x,rfl,fun k hk=>?_⟩;rw[List.length_take] at hk;obtain⟨b,off,rfl,hc⟩:=hx k (by omega);refine⟨b,off,rfl,?_⟩;rw[hc,List.getD_eq_getElem?_getD,List.getD_eq_getElem?_getD,List.getElem?_take,if_pos (by omega)]
theorem DJ (kh:IntKind)(a:Option Addr)(n c k:Nat)(w:World)(h:k<=c):(Instr.slice 54 (.slice a n c) none (some (.int kh (k:Int))) none).run Tryz.prog w=.ok (.slice a k c) w:=by
  have hs:(sizeOf (Tryz.prog.elem 54)).run Tryz.prog w=.ok 1 w:=by kernel_rfl
  have e:=run_slice_h (P:=Tryz.prog) w 54 a n c (by kernel_rfl) kh (k:Int) (by omega) (by omega);rw[e,hs];cases a <;> simp[sliced,Result.andThen,Addr.add]
def YJ (a:Option Addr)(c k:Nat):Option Addr:=if c=k then a else a.map (·.add k)
theorem VI (kl:IntKind)(a:Option Addr)(n c k:Nat)(w:World)(h:k<=n):(Instr.slice 54 (.slice a n c) (some (.int kl (k:Int))) none none).run Tryz.prog w=.ok (.slice (YJ a c k) (n-k) (c-k)) w:=by
  have hs:(sizeOf (Tryz.prog.elem 54)).run Tryz.prog w=.ok 1 w:=by kernel_rfl
  have e:=run_slice_l (P:=Tryz.prog) w 54 a n c (by kernel_rfl) kl (k:Int) (by omega) (by omega);rw[e,hs];by_cases hk:c=k <;> cases a <;> simp[sliced,Result.andThen,YJ,hk]
theorem J4 (kl kh:IntKind)(a:Option Addr)(n c k m:Nat)(w:World)(h:k<=m)(h1:m<=c):(Instr.slice 54 (.slice a n c) (some (.int kl (k:Int))) (some (.int kh (m:Int))) none).run Tryz.prog w=.ok (.slice (YJ a c k) (m-k) (c-k)) w:=by
  have hs:(sizeOf (Tryz.prog.elem 54)).run Tryz.prog w=.ok 1 w:=by kernel_rfl
  have e:=run_slice_lh (P:=Tryz.prog) w 54 a n c (by kernel_rfl) kl kh (k:Int) (m:Int) (by omega) (by omega) (by omega);rw[e,hs];by_cases hk:c=k <;> cases a <;> simp[sliced,Result.andThen,YJ,hk]
theorem TY {w:World}{a:Option Addr}{c:Nat}{L:List Int}(h:Sl w a c L)(k:Nat)(hc:L.length<=c):Sl w (YJ a c k) (c-k) (L.drop k):=by
  rcases h with⟨rfl,rfl,rfl⟩ | ⟨x,rfl,hx⟩
  · exact .inl ⟨by simp[YJ],by omega,by simp⟩
  · by_cases hk:c=k
    · refine .inr ⟨x,by simp[YJ,hk],fun j hj=>?_⟩;rw[List.length_drop] at hj;omega
    · refine .inr ⟨x.add k,by simp[YJ,hk],fun j hj=>?_⟩;rw[List.length_drop] at hj;obtain⟨b,off,rfl,h1⟩:=hx (k+j) (by omega);refine⟨b,off+k,by rw[Go.WideShapes.add_plain],?_⟩;rw[Nat.add_assoc,h1,List.getD_eq_getElem?_getD,List.getD_eq_getElem?_getD,List.getElem?_drop]
def Own (w:World)(B:Nat)(v:Value)(L:List Int):Prop:=w.ownsRow B 5 1 v L.length (L.map (Value.int .u8))
theorem Own.sl {w:World}{B:Nat}{v:Value}{L:List Int}(h:Own w B v L):∃ a c,v=.slice a L.length c/\Sl w a c L/\L.length<=c:=by
  obtain⟨a,c,h1,h2,_,h3⟩:=lZ h;exact⟨a,c,h1,h2,h3⟩
theorem Own.below {w w':World}{B:Nat}{v:Value}{L:List Int}(h:Own w B v L)(hb:Below w.heap.size w w'):Own w' B v L:=own_below h hb
theorem Own.base {w:World}{B B':Nat}{v:Value}{L:List Int}(h:Own w B' v L)(hB:B<=B'):Own w B v L:=World.ownsRow.mono h hB
theorem Own.nil (w:World)(B:Nat):Own w B (.slice none 0 0) []:=World.ownsRow_nil _ _ _ _
def zF (num kind val:Int)(n:Nat):Bool:=decide (1<=num/\num<=536870911/\((kind=0/\n=0)∨(kind=2/\val=0)))
theorem Nh {num kind val:Int}{n:Nat}(h:D7 num kind val n):zF num kind val n=true:=by unfold zF D7 at *; exact decide_eq_true h
theorem zD {num kind val:Int}{n:Nat}(h:¬ D7 num kind val n):zF num kind val n=false:=by unfold zF D7 at *; exact decide_eq_false h
theorem bret {num kind val:Int}{n:Nat}{b:Bool}(h:b=true↔D7 num kind val n):Ending.returned (.bool b)=.returned (.bool (zF num kind val n)):=by
  by_cases hv:D7 num kind val n
  · rw[Nh hv,h.2 hv]
  · rw[zD hv];cases b with
    | false=>rfl
    | true=>exact absurd (h.1 rfl) hv
theorem zH (num kind val:Int)(a:Option Addr)(n c:Nat)(w:World) :
    Calls Tryz.prog 84 #[.agg #[Z8 num,Z8 kind,Z7 val,.slice a n c]] w fun e w'=>e=.returned (.bool (zF num kind val n))/\Below w.heap.size w w':=by
  have hb:=(Below.refl w.heap.size w).alloc (Nat.le_refl _) (.cells #[Z8 num,Z8 kind,Z7 val,.slice a n c] 77);go_enter Tryz.func84,Tryz.ntmps84;go_wp2;all_goals go_ret
  all_goals refine⟨bret ?_,(Below.refl _ _).alloc (Nat.le_refl _) _⟩
  all_goals clear hb
  all_goals unfold D7
  all_goals simp at *
  all_goals omega
theorem uG (num kind val:Int)(a:Option Addr)(n c:Nat)(w:World) :
    Calls Tryz.prog 94 #[.agg #[Z8 num,Z8 kind,Z7 val,.slice a n c]] w fun e w'=>e=.returned (.bool (zF num kind val n))/\Below w.heap.size w w':=by
  have hb:=(Below.refl w.heap.size w).alloc (Nat.le_refl _) (.cells #[Z8 num,Z8 kind,Z7 val,.slice a n c] 77);go_enter Tryz.func94,Tryz.ntmps94;go_wp2;all_goals go_ret
  all_goals refine⟨bret ?_,(Below.refl _ _).alloc (Nat.le_refl _) _⟩
  all_goals clear hb
  all_goals unfold D7
  all_goals simp at *
  all_goals omega
theorem mg (num kind val:Int)(a:Option Addr)(n c:Nat)(w:World)(h0:1<=num)(h1:num<=536870911)(h2:kind=0∨kind=2) :
    Calls Tryz.prog 86 #[.agg #[Z8 num,Z8 kind,Z7 val,.slice a n c]] w fun e w'=>e=.returned (Z7 (8*num+kind))/\Below w.heap.size w w':=by
  have hb:=(Below.refl w.heap.size w).alloc (Nat.le_refl _) (.cells #[Z8 num,Z8 kind,Z7 val,.slice a n c] 77);have h3:0<=kind:=by omega
  have h4:kind<=2:=by omega
  clear h2;go_enter Tryz.func86,Tryz.ntmps86;go_wp2;go_ret;exact⟨rfl,hb⟩
theorem DI (num kind val:Int)(a:Option Addr)(n c:Nat)(w:World)(hn:n<=1000000) :
    Calls Tryz.prog 87 #[.agg #[Z8 num,Z8 kind,Z7 val,.slice a n c]] w fun e w'=>e=.returned (Z7 (VH kind val n))/\Below w.heap.size w w':=by
  have hb:=(Below.refl w.heap.size w).alloc (Nat.le_refl _) (.cells #[Z8 num,Z8 kind,Z7 val,.slice a n c] 77);by_cases h:kind=2
  · subst h;go_enter Tryz.func87,Tryz.ntmps87;go_wp2;go_ret;exact⟨rfl,hb⟩
  · have h2:(kind == 2)=false:=(by simpa using h);have hs:VH kind val n=val:=(by unfold VH; rw[if_neg h]);have HS:=Z9 hs;clear hs h;go_enter Tryz.func87,Tryz.ntmps87;go_wp2;go_ret;exact⟨by rw[HS.out]; rfl,hb⟩
theorem clone_any (a:Option Addr)(c:Nat)(L:List Int)(w:World)(hL:L.length<=1000000)(hr:Sl w a c L) :
    Calls Tryz.prog 154 #[.slice a L.length c] w fun e w'=>∃ v,e=.returned v/\Own w' w.heap.size v L/\Below w.heap.size w w':=by
  obtain⟨i0,hi,hz0,hz1,hz2⟩:=info_parts info5;have HI:=Z9 hi;have HZ0:=Z9 hz0;have HZ1:=Z9 hz1;have HZ2:=Z9 hz2;have HR1:=Z9 (ZP hr ((Below.refl w.heap.size w).alloc (Nat.le_refl _) (.cells #[] 5)));clear hi hz0 hz1 hz2;have hnil:=fun(w:World) (a:Option Addr) (n c:Nat)=>run_eql_slice_nil (P:=Tryz.prog) w 54 5 a n c Tryz.underlying54;rcases a with _ | x
  · have hn:L=[]/\c=0:=by
      rcases hr with⟨_,h1,h2⟩ | ⟨x,hx,_⟩
      · exact⟨h2,h1⟩
      · cases hx
    obtain⟨rfl,rfl⟩:=hn;clear HR1 hr;go_enter Tryz.func154,Tryz.ntmps154;go_wp2;go_ret;exact⟨_,rfl,Own.nil _ _,Below.refl _ _⟩
  · clear hr;go_enter Tryz.func154,Tryz.ntmps154;go_wp2_with (at_builtin; refine YB rfl _ _ 54 rfl w.heap.size i0 Tryz.underlying54 HI.out HZ0.out HZ1.out HZ2.out _ 0 [] rfl (UK w) (some x) L.length c L rfl rfl HR1.out ?c1 ?c2 ?_)
    case c1=>omega
    case c2=>simp
    intro v' w1 hown hgrow;have hbel:=YX (w0:=w) (Nat.le_refl _) (by simp) (UK w) ((Below.refl _ w).alloc (Nat.le_refl _) _) hgrow;have HO:Hid (Own w1 w.heap.size v' L):=by
      show w1.ownsRow _ _ _ _ _ _;simpa using hown
    clear hgrow hown HR1;go_wp2;go_ret;exact⟨_,rfl,HO.out,hbel⟩
theorem l9 (n:Nat)(w:World)(h0:0<n)(h1:n<=100000000) :
    Calls Tryz.prog 119 #[.slice none 0 0,Z8 (n:Int)] w fun e w'=>∃ v,e=.returned v/\Own w' w.heap.size v []/\Below w.heap.size w w':=by
  obtain⟨i0,hi,hz0,hz1,hz2⟩:=info_parts info5;have hrun:=Lib.run_append_nil_zeros (P:=Tryz.prog) w 54 3 54 5 i0 (.int .u8 0) .i64 .i64 Tryz.underlying54 Tryz.underlying3 hi hz0 n h0 (by rw[hz1]; omega) (by omega) (by rw[hz2]; omega);have hcap:=grownCap_ge w n 0 5;have hmax:=grownCap_le_maxLen w n 0 5 (by unfold maxLen; omega);have hown:Own (w.drew.alloc (.cells (Builtin.zeroCells (Value.int .u8 0).cells n++Builtin.zeroCells (Value.int .u8 0).cells (grownCap w n 0 5-n)) 5)) w.heap.size (.slice (some ⟨w.heap.size,0,none⟩) 0 (grownCap w n 0 5)) []:=
    ⟨rfl,.inr ⟨w.heap.size,_,_,rfl,Nat.le_refl _,heap_alloc_new w.drew _,Nat.zero_le _,hmax,by simp[size_zeroCells,Value.cells]; omega,by simp⟩⟩
  have hbel:Below w.heap.size w (w.drew.alloc (.cells (Builtin.zeroCells (Value.int .u8 0).cells n++Builtin.zeroCells (Value.int .u8 0).cells (grownCap w n 0 5-n)) 5)):=(Below.refl _ w).drew.alloc (Nat.le_refl _) _;clear hi hz0 hz1 hz2;have HR:=Z9 hrun;clear hrun;generalize (w.drew.alloc (.cells (Builtin.zeroCells (Value.int .u8 0).cells n++Builtin.zeroCells (Value.int .u8 0).cells (grownCap w n 0 5-n)) 5))=w1 at *
  generalize grownCap w n 0 5=cp at *
  go_enter Tryz.func119,Tryz.ntmps119;go_wp2_with (at_builtin; refine Lib.wpList_append_run _ rfl _ _ _ _ rfl _ _ rfl rfl _ _ HR.out ?_)
  go_wp2;go_ret;exact⟨_,rfl,hown,hbel⟩
def Sls (w:World)(g:Nat)(Ss:List (Option Addr×Nat×List Int)):Prop:=
  ∀ k,k<Ss.length->w.cell? ⟨g,k,none⟩=some (.slice (Ss.getD k (none,0,[])).1 (Ss.getD k (none,0,[])).2.2.length (Ss.getD k (none,0,[])).2.1)/\Sl w (Ss.getD k (none,0,[])).1 (Ss.getD k (none,0,[])).2.1 (Ss.getD k (none,0,[])).2.2
def flat (Ss:List (Option Addr×Nat×List Int)):List Int:=Ss.flatMap (·.2.2)
theorem uH (Ss:List (Option Addr×Nat×List Int))(k:Nat)(h:k<Ss.length):flat (Ss.take (k+1))=flat (Ss.take k)++(Ss.getD k (none,0,[])).2.2:=by
  rw[getD_lt _ _ _ h,List.take_succ_eq_append_getElem h];simp only[flat,List.flatMap_append,List.flatMap_cons,List.flatMap_nil,List.append_nil]
theorem dL (Ss:List (Option Addr×Nat×List Int))(k:Nat):(flat (Ss.take k)).length<=(flat Ss).length:=by
  have:flat Ss=flat (Ss.take k)++flat (Ss.drop k):=by
    unfold flat;rw[<- List.flatMap_append,List.take_append_drop]
  rw[this,List.length_append];omega
theorem zG (g:Nat)(Ss:List (Option Addr×Nat×List Int))(w:World)(hg:g<w.heap.size)(hS:Sls w g Ss)(h0:0<(flat Ss).length)(h1:(flat Ss).length<=100000000)(h2:Ss.length<=1000) :
    Calls Tryz.prog 88 #[.slice (some ⟨g,0,none⟩) Ss.length Ss.length] w fun e w'=>∃ v,e=.returned v/\Own w' w.heap.size v (flat Ss)/\Below w.heap.size w w':=by
  obtain⟨i0,hi,hz0,hz1,hz2⟩:=info_parts info5;have HI:=Z9 hi;have HZ0:=Z9 hz0;have HZ1:=Z9 hz1;have HZ2:=Z9 hz2;have HS:=Z9 hS;have HF:=Z9 (fun k hk=>uH Ss k hk);have HL:=Z9 (fun k=>dL Ss k);have HE:Hid (flat (Ss.take Ss.length)=flat Ss):=Z9 (by rw[List.take_length]);clear hi hz0 hz1 hz2 hS;go_enter Tryz.func88,Tryz.ntmps88;go_wp2_with fail;go_loop [3,11] (fun s i=>∃ k:Nat,k<=Ss.length/\i=Z8 k/\s=Z8 ((flat (Ss.take k)).length:Nat)) (fun _ i=>Ss.length-(intOf i).toNat)
  case atStart=>exact⟨0,by omega,rfl,rfl⟩
  case round=>
    obtain⟨k,hk,rfl,rfl⟩:=hrel;have hle:=HL.out k;by_cases hlt:k<Ss.length
    · obtain⟨hc,-⟩:=HS.out k hlt;have hle2:=HL.out (k+1);have HF2:Hid ((flat (Ss.take (k+1))).length=(flat (Ss.take k)).length+(Ss.getD k (none,0,[])).2.2.length):=Z9 (by rw[HF.out k hlt,List.length_append]);have hx:(flat (Ss.take k)).length+(Ss.getD k (none,0,[])).2.2.length<=(flat Ss).length:=(by have:=HF2.out; omega);clear hle2;generalize Ss.getD k (none,0,[])=S at *
      obtain⟨sa,sc,SL⟩:=S;simp only at *
      generalize (flat (Ss.take k)).length=x at *
      go_wp2;go_round
      case rel=>exact⟨k+1,by omega,by go_num,by rw[HF2.out]; go_num⟩
      case measure=>simp[intOf]; omega
    · obtain rfl:k=Ss.length:=(by omega);rw[HE.out];generalize hM:(flat Ss).length=M at *
      have HM:=Z9 hM;clear hM;go_wp2_with fail;refine(l9 M w h0 h1).mono ?_;rintro e w1 ⟨v,rfl,hown,hb⟩;have hz:=hb.size;go_wp2_with fail
      go_loopw [6,27] (fun s i wx=>∃ k:Nat,k<=Ss.length/\i=Z8 k/\Own wx w.heap.size s (flat (Ss.take k))/\Below w.heap.size w wx) (fun _ i _=>Ss.length-(intOf i).toNat)
      case atStart=>exact⟨0,by omega,rfl,hown,hb⟩
      case round=>
        obtain⟨k,hk,rfl,ho,hb1⟩:=hrel;have hle:=HL.out k;by_cases hlt:k<Ss.length
        · obtain⟨hc,hs⟩:=HS.out k hlt;have hc1:=(hb1.cell (p:=⟨g,k,none⟩) hg).trans hc;have HSL:=Z9 (ZP hs hb1);have hle2:=HL.out (k+1);have HF2:=Z9 (HF.out k hlt);have hx:(flat (Ss.take k)).length+(Ss.getD k (none,0,[])).2.2.length<=M:=(by have:=congrArg List.length HF2.out; rw[List.length_append] at this; omega);clear hle2 hs hc;generalize Ss.getD k (none,0,[])=S at *
          obtain⟨sa,sc,SL⟩:=S;simp only at *
          generalize flat (Ss.take k)=x at *
          have hz1:=hb1.size;go_wp2_with (at_builtin; refine YB rfl _ _ 54 rfl w.heap.size i0 Tryz.underlying54 HI.out HZ0.out HZ1.out HZ2.out _ x.length _ rfl ho sa SL.length sc SL rfl rfl HSL.out ?d1 ?d2 ?_)
          case d1=>omega
          case d2=>exact hz1
          intro v2 w2 ho2 hgrow;have hb2:=YX (Nat.le_refl _) hz1 ho hb1 hgrow;have HO:Hid (Own w2 w.heap.size v2 (flat (Ss.take (k+1)))):=by
            rw[HF2.out];show w2.ownsRow _ _ _ _ _ _;rw[List.length_append,List.map_append];exact ho2
          clear hgrow ho hb1 ho2;go_wp2
          go_roundw
          case rel=>exact⟨k+1,by omega,by go_num,HO.out,hb2⟩
          case measure=>simp[intOf]; omega
        · obtain rfl:k=Ss.length:=(by omega);have HO:Hid (Own wr w.heap.size _ (flat Ss)):=Z9 (HE.out ▸ ho);clear ho;go_wp2;go_ret;exact⟨_,rfl,HO.out,hb1⟩
def Box (w:World)(g o:Nat)(num kind val:Int)(b:Option Addr)(n d:Nat):Prop:=
  w.cell? ⟨g,o,none⟩=some (Z8 num)/\w.cell? ⟨g,o+1,none⟩=some (Z8 kind)/\w.cell? ⟨g,o+2,none⟩=some (Z7 val)/\w.cell? ⟨g,o+3,none⟩=some (.slice b n d)
theorem wX (w:World)(num kind val:Int)(b:Option Addr)(n d:Nat):Box (w.alloc (.cells #[Z8 num,Z8 kind,Z7 val,.slice b n d] 77)) w.heap.size 0 num kind val b n d:=by
  refine⟨?_,?_,?_,?_⟩ <;> simp
theorem Box.lt {w:World}{g o:Nat}{num kind val:Int}{b:Option Addr}{n d:Nat}(h:Box w g o num kind val b n d):g<w.heap.size:=World.block_lt_of_cell? w (⟨g,o,none⟩:Addr) h.1
theorem Box.below {w w':World}{g o:Nat}{num kind val:Int}{b:Option Addr}{n d:Nat}(h:Box w g o num kind val b n d)(hb:Below w.heap.size w w'):Box w' g o num kind val b n d:=
  ⟨(hb.cell (p:=⟨g,o,none⟩) h.lt).trans h.1,(hb.cell (p:=⟨g,o+1,none⟩) h.lt).trans h.2.1,(hb.cell (p:=⟨g,o+2,none⟩) h.lt).trans h.2.2.1,(hb.cell (p:=⟨g,o+3,none⟩) h.lt).trans h.2.2.2⟩
theorem aB3 (kind val:Int)(n:Nat)(hv:W64 val)(hn:n<=1000000):W64 (VH kind val n):=by
  unfold VH W64 at *
  split <;> omega
theorem N7 (a:Option Addr)(c:Nat)(L:List Int)(num kind val:Int)(b:Option Addr)(d:Nat)(B:List Int)(w:World)(hL:L.length<=1000000)(hB:B.length<=1000000)(hr:Sl w a c L)(hs:Sl w b d B)(hv:D7 num kind val B.length)(hw:W64 val) :
    Calls Tryz.prog 50 #[.slice a L.length c,.agg #[Z8 num,Z8 kind,Z7 val,.slice b B.length d]] w fun e w'=>∃ v,e=.returned (.tuple #[v,Z8 0])/\Own w' w.heap.size v (L++encI num kind val B)/\Below w.heap.size w w':=by
  have cV:=zH num kind val b B.length d;rw[Nh hv] at cV;have hk:kind=0∨kind=2:=by unfold D7 at hv; omega
  have hn0:=hv.1;have hn1:=hv.2.1;have cT:=fun w=>mg num kind val b B.length d w hn0 hn1 hk;have cS:=fun w=>DI num kind val b B.length d w hB;have hsb:=aB3 kind val B.length hw hB;have htb:W64 (8*num+kind):=by unfold W64; omega
  have cA:=fun w=>MI none 0 [] (8*num+kind) w (by simp) (.inl ⟨rfl,rfl,rfl⟩) htb;simp only[List.length_nil,List.nil_append] at cA;have hEl:=XZ (8*num+kind);have aS0:=XZ (VH kind val B.length);have cB:=fun a c w hr=>MI a c (Enc (8*num+kind)) (VH kind val B.length) w (by omega) hr hsb;have hfin:encI num kind val B=(Enc (8*num+kind)++Enc (VH kind val B.length))++B:=by simp[encI]
  generalize VH kind val B.length=sc at *
  generalize Enc (8*num+kind)=E1 at *
  generalize Enc sc=E2 at *
  have QE:=Z9 hfin;have HR:=Z9 hr;have HS:=Z9 hs;clear hfin hr hs hk hv hsb;go_enter Tryz.func50,Tryz.ntmps50;go_wp2_with fail;refine(cV _).mono ?_;rintro e w1 ⟨rfl,hb1⟩;have hx:=(wX w num kind val b B.length d).below hb1;have hb:Below w.heap.size w w1:=((Below.refl _ w).alloc (Nat.le_refl _) (.cells #[Z8 num,Z8 kind,Z7 val,.slice b B.length d] 77)).trans (hb1.mono (by simp));clear cV hb1;go_wp2_with fail
  go_region_held3 (fun wx=>wx.cell? ⟨w.heap.size,0,none⟩=some (Z8 num)/\wx.cell? ⟨w.heap.size,0+1,none⟩=some (Z8 kind)/\wx.cell? ⟨w.heap.size,0+2,none⟩=some (Z7 val)/\wx.cell? ⟨w.heap.size,0+3,none⟩=some (.slice b B.length d))
    (first | exact x5 | exact x4 | exact x3 | exact x2 | exact hx) (first
    | (go_at_call 85; refine(cB _ _ _ s4).mono ?_; rintro e w5 ⟨v5,rfl,mD,hb5⟩; have x5:=x4.below hb5)
    | (go_at_call 86; refine(cT _).mono ?_; rintro e w2 ⟨rfl,hb2⟩; have x2:=Box.below (w:=w1.drew) hx hb2)
    | (go_at_call 87; refine(cS _).mono ?_; rintro e w4 ⟨rfl,hb4⟩; have x4:=x3.below hb4; have s4:=ZP s3 hb4)
    | (go_at_call 85; refine(cA _).mono ?_; rintro e w3 ⟨v3,rfl,ho3,hb3⟩; have x3:=x2.below hb3; obtain⟨a3,c3,rfl,s3,-⟩:=Own.sl ho3))
  have aB4:Below w.heap.size w w5:=(((hb.drew.trans (hb2.mono hb.size)).trans (hb3.mono (hb.drew.trans (hb2.mono hb.size)).size)).trans (hb4.mono ((hb.drew.trans (hb2.mono hb.size)).trans (hb3.mono (hb.drew.trans (hb2.mono hb.size)).size)).size)).trans
    (hb5.mono (((hb.drew.trans (hb2.mono hb.size)).trans (hb3.mono (hb.drew.trans (hb2.mono hb.size)).size)).trans (hb4.mono ((hb.drew.trans (hb2.mono hb.size)).trans (hb3.mono (hb.drew.trans (hb2.mono hb.size)).size)).size)).size)
  obtain⟨a5,c5,rfl,s5,-⟩:=Own.sl mD;have x53:w5.cell? ⟨w.heap.size,3,none⟩=some (.slice b B.length d):=x5.2.2.2;have Q8:=Z9 aB4;have AL:=Z9 s5;have hlen:(E1++E2).length<=20:=by rw[List.length_append]; omega
  have hpos:0<(E1++E2).length:=by rw[List.length_append]; omega
  generalize E1++E2=E at *
  clear cT cS cA cB hx x2 x3 x4 x5 s3 s4 hb hb2 hb3 hb4 hb5 aB4 ho3 mD s5;go_wp2_with fail;have hbn:=Q8.out.alloc Q8.out.size (.cells #[.slice a L.length c,.slice a5 E.length c5,.slice b B.length d] 54);have hbm:=(Below.refl w5.heap.size w5).alloc (Nat.le_refl _) (.cells #[.slice a L.length c,.slice a5 E.length c5,.slice b B.length d] 54);have hS3:Sls (w5.alloc (.cells #[.slice a L.length c,.slice a5 E.length c5,.slice b B.length d] 54)) w5.heap.size [(a,c,L),(a5,c5,E),(b,d,B)]:=by
    intro k hk;match k,hk with
    | 0,_=>exact⟨by simp,ZP HR.out hbn⟩
    | 1,_=>exact⟨by simp,ZP AL.out hbm⟩
    | 2,_=>exact⟨by simp,ZP HS.out hbn⟩
  have hfl:flat [(a,c,L),(a5,c5,E),(b,d,B)]=L++(E++B):=by simp[flat]
  have cC:=zG w5.heap.size [(a,c,L),(a5,c5,E),(b,d,B)] _ (by simp) hS3 (by rw[hfl]; simp only[List.length_append]; omega) (by rw[hfl]; simp only[List.length_append]; omega) (by simp);rw[hfl] at cC;refine cC.mono ?_;rintro e w6 ⟨v6,rfl,ho6,hb6⟩;have hbl:=hbn.trans (hb6.mono hbn.size);have HO:Hid (Own w6 w.heap.size v6 (L++encI num kind val B)):=by
    rw[QE.out];exact Z9 (ho6.base hbn.size)
  clear cC hS3 hbm hbn ho6 hb6 hfl;go_wp2;go_ret2;exact⟨_,rfl,HO.out,hbl⟩
theorem VR {w0 w w':World}(h:Below w0.heap.size w0 w)(h2:Below w.heap.size w w'):Below w0.heap.size w0 w':=h.trans (h2.mono h.size)
def szB (n:Int):Int:=if n<0 then 0 else 1+((Enc n).length:Nat)+n
theorem DK {a:Option Addr}{c:Nat}{L:List Int}{w:World}(hL:L.length<=1000000)(hr:Sl w a c L)(hw:∀ x,x∈L->W8 x){e0:Int}(h:rd 0 0 L=(0,0,e0)) :
    Calls Tryz.prog 153 #[.slice a L.length c] w fun e w'=>e=.returned (.tuple #[Z7 0,Z8 0,Z8 e0])/\w=w':=by
  have:=Iq a c L w hL hr hw;rw[h] at this;exact this
theorem F5 {a:Option Addr}{c:Nat}{L:List Int}{w:World}(hL:L.length<=1000000)(hr:Sl w a c L)(hw:∀ x,x∈L->W8 x){t:Int}{k:Nat}(h:rd 0 0 L=(t,(k:Int),0)) :
    Calls Tryz.prog 153 #[.slice a L.length c] w fun e w'=>e=.returned (.tuple #[Z7 t,Z8 (k:Int),Z8 0])/\w=w':=by
  have:=Iq a c L w hL hr hw;rw[h] at this;exact this
theorem uK (a:Option Addr)(c:Nat)(L:List Int)(w:World)(hL:L.length<=1000000)(hr:Sl w a c L)(hw:∀ x,x∈L->W8 x)(e0:Int)(h:rd 0 0 L=(0,0,e0))(he:e0≠0) :
    Calls Tryz.prog 152 #[.slice a L.length c] w fun e w'=>e=.returned (.tuple #[.agg #[Z8 0,Z8 0,Z7 0,.slice none 0 0],Z8 0,Z8 e0])/\Below w.heap.size w w':=by
  have hbn:=(Below.refl w.heap.size w).alloc (Nat.le_refl _) (.cells #[Z8 0,Z8 0,Z7 0,.slice none 0 0] 77);have cR:=DK hL (ZP hr hbn) hw h;have h1:(e0 != 0)=true:=by simpa using he
  have h2:(e0 == 0)=false:=by simpa using he
  clear h he hbn;go_enter Tryz.func152,Tryz.ntmps152;go_wp2_with fail;refine cR.mono ?_;rintro e w1 ⟨rfl,rfl⟩;clear cR;go_wp2;exact bodyPost_ret (v:=.tuple #[.agg #[Z8 0,Z8 0,Z7 0,.slice none 0 0],Z8 0,Z8 e0]) (by simp[results,Tryz.results152,go_sem]) rfl ⟨rfl,(Below.refl _ _).alloc (Nat.le_refl _) _⟩
theorem mG (a:Option Addr)(c:Nat)(L:List Int)(w:World)(hL:L.length<=1000000)(hr:Sl w a c L)(hw:∀ x,x∈L->W8 x)(t kd:Int)(k:Nat)(h:rd 0 0 L=(t,(k:Int),0))(hg:WU t)(hk:t % 8=kd)(hkd:kd=0∨kd=2) :
    Calls Tryz.prog 152 #[.slice a L.length c] w fun e w'=>e=.returned (.tuple #[.agg #[Z8 (t / 8),Z8 kd,Z7 0,.slice none 0 0],Z8 (k:Int),Z8 0])/\Below w.heap.size w w':=by
  have hbn:=(Below.refl w.heap.size w).alloc (Nat.le_refl _) (.cells #[Z8 0,Z8 0,Z7 0,.slice none 0 0] 77);have cR:=F5 hL (ZP hr hbn) hw h;obtain⟨h1,h2,h3⟩:=hg;have h0:0<=t:=by omega
  have h4:t<=18446744073709551615:=by omega
  clear h hbn h3;rcases hkd with rfl | rfl
  · go_enter Tryz.func152,Tryz.ntmps152;go_wp2_with fail;refine cR.mono ?_;rintro e w1 ⟨rfl,rfl⟩;clear cR;go_wp2;exact bodyPost_ret (v:=.tuple #[.agg #[Z8 (t / 8),Z8 0,Z7 0,.slice none 0 0],Z8 (k:Int),Z8 0]) (by simp[results,Tryz.results152,go_sem]) rfl ⟨rfl,(Below.refl _ _).alloc (Nat.le_refl _) _⟩
  · go_enter Tryz.func152,Tryz.ntmps152;go_wp2_with fail;refine cR.mono ?_;rintro e w1 ⟨rfl,rfl⟩;clear cR;go_wp2;exact bodyPost_ret (v:=.tuple #[.agg #[Z8 (t / 8),Z8 2,Z7 0,.slice none 0 0],Z8 (k:Int),Z8 0]) (by simp[results,Tryz.results152,go_sem]) rfl ⟨rfl,(Below.refl _ _).alloc (Nat.le_refl _) _⟩
theorem uI (a:Option Addr)(c:Nat)(L:List Int)(w:World)(hL:L.length<=1000000)(hr:Sl w a c L)(hw:∀ x,x∈L->W8 x)(t:Int)(k:Nat)(h:rd 0 0 L=(t,(k:Int),0))(h0:0<=t)(h1:t<=18446744073709551615)(hg:¬ WU t) :
    Calls Tryz.prog 152 #[.slice a L.length c] w fun e w'=>e=.returned (.tuple #[.agg #[Z8 0,Z8 0,Z7 0,.slice none 0 0],Z8 0,Z8 4])/\Below w.heap.size w w':=by
  have hbn:=(Below.refl w.heap.size w).alloc (Nat.le_refl _) (.cells #[Z8 0,Z8 0,Z7 0,.slice none 0 0] 77);have cR:=F5 hL (ZP hr hbn) hw h;unfold WU at hg;have HG:=Z9 hg;clear h hbn hg;go_enter Tryz.func152,Tryz.ntmps152;go_wp2_with fail;refine cR.mono ?_;rintro e w1 ⟨rfl,rfl⟩;clear cR;go_wp2;all_goals first
    | (exfalso; have hh:=HG.out; clear HG; simp at *; omega)
    | exact bodyPost_ret (v:=.tuple #[.agg #[Z8 0,Z8 0,Z7 0,.slice none 0 0],Z8 0,Z8 4]) (by simp[results,Tryz.results152,go_sem]) rfl ⟨rfl,(Below.refl _ _).alloc (Nat.le_refl _) _⟩
def dN (w:World)(R:Zj×Int×Int)(e:Ending)(w':World):Prop:=
  ∃ v,e=.returned (.tuple #[.agg #[Z8 R.1.num,Z8 R.1.kind,Z7 R.1.val,v],Z8 R.2.1,Z8 R.2.2])/\Own w' w.heap.size v R.1.bytes/\Below w.heap.size w w'
theorem Vo {w w':World}{e0:Int}(hb:Below w.heap.size w w'):dN w (VT,0,e0) (.returned (.tuple #[.agg #[Z8 0,Z8 0,Z7 0,.slice none 0 0],Z8 0,Z8 e0])) w':=⟨_,rfl,Own.nil _ _,hb⟩
def XM (w:World)(g:Nat)(c0 c1 c2 c3:Value):Prop:=
  w.cell? ⟨g,0,none⟩=some c0/\w.cell? ⟨g,1,none⟩=some c1/\w.cell? ⟨g,2,none⟩=some c2/\w.cell? ⟨g,3,none⟩=some c3/\∀ o,w.frozen? ⟨g,o,none⟩=false
theorem Xk (w:World)(c0 c1 c2 c3:Value):XM (w.alloc (.cells #[c0,c1,c2,c3] 77)) w.heap.size c0 c1 c2 c3:=by
  refine⟨by simp,by simp,by simp,by simp,fun o=>World.frozen?_alloc_at _ _ _ _ rfl⟩
theorem XM.lt {w:World}{g:Nat}{c0 c1 c2 c3:Value}(h:XM w g c0 c1 c2 c3):g<w.heap.size:=World.block_lt_of_cell? w (⟨g,0,none⟩:Addr) h.1
theorem XM.below {w w':World}{g:Nat}{c0 c1 c2 c3:Value}(h:XM w g c0 c1 c2 c3)(hb:Below w.heap.size w w'):XM w' g c0 c1 c2 c3:=by
  have hl:=h.lt;obtain⟨h0,h1,h2,h3,hf⟩:=h;exact⟨(hb.cell (p:=⟨g,0,none⟩) hl).trans h0,(hb.cell (p:=⟨g,1,none⟩) hl).trans h1,(hb.cell (p:=⟨g,2,none⟩) hl).trans h2,(hb.cell (p:=⟨g,3,none⟩) hl).trans h3,fun o=>(hb.frozen (p:=⟨g,o,none⟩) hl).trans (hf o)⟩
theorem XM.set {w:World}{g:Nat}{c0 c1 c2 c3:Value}(h:XM w g c0 c1 c2 c3)(d0 d1 d2 d3:Value) :
    XM ((((w.setCell ⟨g,0,none⟩ d0).setCell ⟨g,1,none⟩ d1).setCell ⟨g,2,none⟩ d2).setCell ⟨g,3,none⟩ d3) g d0 d1 d2 d3:=by
  obtain⟨h0,h1,h2,h3,hf⟩:=h;refine⟨?_,?_,?_,?_,fun o=>?_⟩
  · rw[World.cell?_setCell_other _ _ _ _ (by simp),World.cell?_setCell_other _ _ _ _ (by simp),World.cell?_setCell_other _ _ _ _ (by simp)];exact World.cell?_setCell_same _ _ _ h0
  · rw[World.cell?_setCell_other _ _ _ _ (by simp),World.cell?_setCell_other _ _ _ _ (by simp)];exact World.cell?_setCell_same _ _ _ ((World.cell?_setCell_other _ _ _ _ (by simp)).trans h1)
  · rw[World.cell?_setCell_other _ _ _ _ (by simp)];exact World.cell?_setCell_same _ _ _ ((World.cell?_setCell_other _ _ _ _ (by simp)).trans ((World.cell?_setCell_other _ _ _ _ (by simp)).trans h2))
  · exact World.cell?_setCell_same _ _ _ ((World.cell?_setCell_other _ _ _ _ (by simp)).trans ((World.cell?_setCell_other _ _ _ _ (by simp)).trans ((World.cell?_setCell_other _ _ _ _ (by simp)).trans h3)))
  · rw[World.frozen?_setCell,World.frozen?_setCell,World.frozen?_setCell,World.frozen?_setCell];exact hf o
theorem al4 {w0 w:World}{g:Nat}(h:Below w0.heap.size w0 w)(hg:w0.heap.size<=g)(d0 d1 d2 d3:Value) :
    Below w0.heap.size w0 ((((w.setCell ⟨g,0,none⟩ d0).setCell ⟨g,1,none⟩ d1).setCell ⟨g,2,none⟩ d2).setCell ⟨g,3,none⟩ d3):=
  (((h.setCell (p:=⟨g,0,none⟩) hg _).setCell (p:=⟨g,1,none⟩) hg _).setCell (p:=⟨g,2,none⟩) hg _).setCell (p:=⟨g,3,none⟩) hg _
theorem Nk {w0 w:World}{g:Nat}{c0 c1 c2 c3:Value}(h:XM w g c0 c1 c2 c3)(hb:Below w0.heap.size w0 w)(hg:w0.heap.size<=g)(d0 d1 d2 d3:Value) :
    ∃ W,(((w.setCell ⟨g,0,none⟩ d0).setCell ⟨g,1,none⟩ d1).setCell ⟨g,2,none⟩ d2).setCell ⟨g,3,none⟩ d3=W/\XM W g d0 d1 d2 d3/\Below w0.heap.size w0 W /\
      (∀ B v L,Own w B v L->g<B->Own W B v L)/\w.heap.size<=W.heap.size:=
  ⟨_,rfl,h.set _ _ _ _,al4 hb hg _ _ _ _,fun B v L ho hl=>ownsRow_setCell_below (ownsRow_setCell_below (ownsRow_setCell_below (ownsRow_setCell_below ho (a:=⟨g,0,none⟩) hl _) (a:=⟨g,1,none⟩) hl _) (a:=⟨g,2,none⟩) hl _) (a:=⟨g,3,none⟩) hl _,by simp⟩
theorem al5 {w0 w:World}{g:Nat}{c0 c1 c2 c3:Value}(h:XM w g c0 c1 c2 c3)(hb:Below w0.heap.size w0 w)(hg:w0.heap.size<=g)(d:Value) :
    ∃ W,w.setCell ⟨g,2,none⟩ d=W/\XM W g c0 c1 d c3/\Below w0.heap.size w0 W:=by
  refine⟨_,rfl,?_,hb.setCell (p:=⟨g,2,none⟩) hg _⟩;obtain⟨h0,h1,h2,h3,hf⟩:=h;exact⟨(World.cell?_setCell_other _ _ _ _ (by simp)).trans h0,(World.cell?_setCell_other _ _ _ _ (by simp)).trans h1,World.cell?_setCell_same _ _ _ h2,(World.cell?_setCell_other _ _ _ _ (by simp)).trans h3,fun o=>(World.frozen?_setCell _ _ _ _).trans (hf o)⟩
theorem al6 {w0 w:World}{g:Nat}{c0 c1 c2 c3:Value}(h:XM w g c0 c1 c2 c3)(hb:Below w0.heap.size w0 w)(hg:w0.heap.size<=g)(d:Value) :
    ∃ W,w.setCell ⟨g,3,none⟩ d=W/\XM W g c0 c1 c2 d/\Below w0.heap.size w0 W/\(∀ B v L,Own w B v L->g<B->Own W B v L):=by
  refine⟨_,rfl,?_,hb.setCell (p:=⟨g,3,none⟩) hg _,fun B v L ho hl=>ownsRow_setCell_below ho (a:=⟨g,3,none⟩) hl _⟩;obtain⟨h0,h1,h2,h3,hf⟩:=h;exact⟨(World.cell?_setCell_other _ _ _ _ (by simp)).trans h0,(World.cell?_setCell_other _ _ _ _ (by simp)).trans h1,(World.cell?_setCell_other _ _ _ _ (by simp)).trans h2,World.cell?_setCell_same _ _ _ h3,fun o=>(World.frozen?_setCell _ _ _ _).trans (hf o)⟩
theorem zJ (a:Option Addr)(c:Nat)(L:List Int)(w:World)(hL:L.length<=1000000)(hr:Sl w a c L)(hw:∀ x,x∈L->W8 x)(hc:L.length<=c) :
    Calls Tryz.prog 144 #[.slice a L.length c] w (dN w (Vp L)):=by
  have hbn:=(Below.refl w.heap.size w).alloc (Nat.le_refl _) (.cells #[Z8 0,Z8 0,Z7 0,.slice none 0 0] 77);have hz:w.heap.size<(w.alloc (.cells #[Z8 0,Z8 0,Z7 0,.slice none 0 0] 77)).heap.size:=by simp
  rcases Nj L hw with⟨e0,h,he⟩ | ⟨t,h,ht0,ht1,hrd,hh0,aN0,hle,-,-,hcs⟩
  · rw[F8 h he];have cS:=uK a c L _ hL (ZP hr hbn) hw e0 h he;have h1:(e0 != 0)=true:=(by simpa using he);have h2:(e0 == 0)=false:=(by simpa using he);clear h he;go_enter Tryz.func144,Tryz.ntmps144;go_wp2_with fail;refine cS.mono ?_;rintro e w1 ⟨rfl,hb⟩;have hbl:=VR hbn hb;have K:=(Xk w _ _ _ _).below hb;have K':=Z9 K;obtain⟨k0,k1,k2,k3,kf⟩:=K;clear cS hbn hb hz;go_wp2;clear k0 k1 k2 k3 kf;obtain⟨W2,hW2,KE,J5,-,-⟩:=Nk K'.out hbl (Nat.le_refl _) (Z8 0) (Z8 0) (Z7 0) (.slice none 0 0);rw[hW2];obtain⟨W3,hW3,uJ,SC,-,-⟩:=Nk KE J5 (Nat.le_refl _) (Z8 0) (Z8 0) (Z7 0) (.slice none 0 0);rw[hW3];clear hW2 hW3 KE J5;obtain⟨k0,k1,k2,k3,kf⟩:=uJ;exact bodyPost_ret (v:=.tuple #[.agg #[Z8 0,Z8 0,Z7 0,.slice none 0 0],Z8 0,Z8 e0]) (by simp[results,Tryz.results144,go_sem,k0,k1,k2,k3]) rfl (Vo SC)
  rcases hcs with hb | ⟨hg,hcs⟩
  · rw[F7 hrd hb];have cS:=uI a c L _ hL (ZP hr hbn) hw t h hrd ht0 ht1 hb;clear hrd hb;go_enter Tryz.func144,Tryz.ntmps144;go_wp2_with fail;refine cS.mono ?_;rintro e w1 ⟨rfl,hb⟩;have hbl:=VR hbn hb;have K:=(Xk w _ _ _ _).below hb;have K':=Z9 K;obtain⟨k0,k1,k2,k3,kf⟩:=K;clear cS hbn hb hz;go_wp2;clear k0 k1 k2 k3 kf;obtain⟨W2,hW2,KE,J5,-,-⟩:=Nk K'.out hbl (Nat.le_refl _) (Z8 0) (Z8 0) (Z7 0) (.slice none 0 0);rw[hW2];obtain⟨W3,hW3,uJ,SC,-,-⟩:=Nk KE J5 (Nat.le_refl _) (Z8 0) (Z8 0) (Z7 0) (.slice none 0 0);rw[hW3];clear hW2 hW3 KE J5;obtain⟨k0,k1,k2,k3,kf⟩:=uJ;exact bodyPost_ret (v:=.tuple #[.agg #[Z8 0,Z8 0,Z7 0,.slice none 0 0],Z8 0,Z8 4]) (by simp[results,Tryz.results144,go_sem,k0,k1,k2,k3]) rfl (Vo SC)
  obtain⟨kd,hk,hkd⟩:∃ kd,t % 8=kd/\(kd=0∨kd=2):=⟨_,rfl,hg.2.2⟩;have cS:=mG a c L _ hL (ZP hr hbn) hw t kd h hrd hg hk hkd;have HS:=Z9 (TY hr h hc);have hsl:=fun wx=>VI .i64 a L.length c h wx hle;rcases hcs with⟨e0,h2,he⟩ | ⟨n,k,hn,h2,hk0,hk10,hle2,-,-⟩
  · rw[F6 hrd hg h2 he];have cR:∀ wx,Sl wx (YJ a c h) (c-h) (L.drop h)->Calls Tryz.prog 153 #[.slice (YJ a c h) (L.length-h) (c-h)] wx fun e w'=>e=.returned (.tuple #[Z7 0,Z8 0,Z8 e0])/\wx=w':=by
      intro wx hs;have:=DK (by rw[List.length_drop]; omega) hs (XC hw h) h2;rw[List.length_drop] at this;exact this
    have h1:(e0 != 0)=true:=(by simpa using he);have h2':(e0 == 0)=false:=(by simpa using he);clear h2 he hk hkd hrd hg;go_enter Tryz.func144,Tryz.ntmps144;go_wp2_with fail;refine cS.mono ?_;rintro e w1 ⟨rfl,hb⟩;have hbl:=VR hbn hb;have K:=(Xk w _ _ _ _).below hb;have K':=Z9 K;obtain⟨k0,k1,k2,k3,kf⟩:=K;clear cS hbn hb hz;go_wp2_with fail;obtain⟨W,hW,mF,QB,-,hzW⟩:=Nk K'.out hbl (Nat.le_refl _) (Z8 (t / 8)) (Z8 kd) (Z7 0) (.slice none 0 0);rw[hW];clear k0 k1 k2 k3 kf hbl K' hW;have K2:=Z9 mF;obtain⟨k0,k1,k2,k3,kf⟩:=mF;refine(cR _ (ZP HS.out QB)).mono ?_;rintro e w2 ⟨rfl,rfl⟩;clear cR;go_wp2;clear k0 k1 k2 k3 kf;obtain⟨W3,hW3,uJ,SC,-,-⟩:=Nk K2.out QB (Nat.le_refl _) (Z8 0) (Z8 0) (Z7 0) (.slice none 0 0);rw[hW3];clear hW3;obtain⟨k0,k1,k2,k3,kf⟩:=uJ;exact bodyPost_ret (v:=.tuple #[.agg #[Z8 0,Z8 0,Z7 0,.slice none 0 0],Z8 0,Z8 e0]) (by simp[results,Tryz.results144,go_sem,k0,k1,k2,k3]) rfl (Vo SC)
  have cR:∀ wx,Sl wx (YJ a c h) (c-h) (L.drop h)->Calls Tryz.prog 153 #[.slice (YJ a c h) (L.length-h) (c-h)] wx fun e w'=>e=.returned (.tuple #[Z7 (n:Int),Z8 (k:Int),Z8 0])/\wx=w':=by
    intro wx hs;have:=F5 (by rw[List.length_drop]; omega) hs (XC hw h) h2;rw[List.length_drop] at this;exact this
  rcases hkd with rfl | rfl
  · rw[Lh hrd hg h2 hk];generalize t / 8=q at *
    clear h2 hk hrd hg;go_enter Tryz.func144,Tryz.ntmps144;go_wp2_with fail;refine cS.mono ?_;rintro e w1 ⟨rfl,hb⟩;have hbl:=VR hbn hb;have K:=(Xk w _ _ _ _).below hb;have K':=Z9 K;obtain⟨k0,k1,k2,k3,kf⟩:=K;clear cS hbn hb hz;go_wp2_with fail;obtain⟨W,hW,mF,QB,-,hzW⟩:=Nk K'.out hbl (Nat.le_refl _) (Z8 q) (Z8 0) (Z7 0) (.slice none 0 0);rw[hW];clear k0 k1 k2 k3 kf hbl K' hW;have K2:=Z9 mF;obtain⟨k0,k1,k2,k3,kf⟩:=mF;refine(cR _ (ZP HS.out QB)).mono ?_;rintro e w2 ⟨rfl,rfl⟩;clear cR;go_wp2;clear k0 k1 k2 k3 kf;obtain⟨W2,hW2,KE,J5⟩:=al5 K2.out QB (Nat.le_refl _) (Z7 (n:Int));rw[hW2];obtain⟨W3,hW3,uJ,SC,-,-⟩:=Nk KE J5 (Nat.le_refl _) (Z8 q) (Z8 0) (Z7 (n:Int)) (.slice none 0 0);rw[hW3];clear hW2 hW3 KE J5;obtain⟨k0,k1,k2,k3,kf⟩:=uJ;exact bodyPost_ret (v:=.tuple #[.agg #[Z8 q,Z8 0,Z7 (n:Int),.slice none 0 0],Z8 ((h+k:Nat):Int),Z8 0]) (by simp[results,Tryz.results144,go_sem,k0,k1,k2,k3]) rfl ⟨_,rfl,Own.nil _ _,SC⟩
  have hsl2:∀ wx,(Instr.slice 54 (.slice a L.length c) (some (Z8 ((h:Int)+(k:Int)))) none none).run Tryz.prog wx=.ok (.slice (YJ a c (h+k)) (L.length-(h+k)) (c-(h+k))) wx:=fun wx=>VI .i64 a L.length c (h+k) wx hle2;by_cases hs:n<=(L.drop (h+k)).length
  · rw[Qg hrd hg h2 hk hs];rw[List.length_drop] at hs;have HS2:=Z9 (FZ (TY hr (h+k) hc) n);have aN1:=fun wx=>DJ .u64 (YJ a c (h+k)) (L.length-(h+k)) (c-(h+k)) n wx (by omega);have cC:∀ wx,Sl wx (YJ a c (h+k)) (c-(h+k)) ((L.drop (h+k)).take n)->Calls Tryz.prog 154 #[.slice (YJ a c (h+k)) n (c-(h+k))] wx fun e w'=>∃ v,e=.returned v/\Own w' wx.heap.size v ((L.drop (h+k)).take n)/\Below wx.heap.size wx w':=by
      intro wx hs';have:=clone_any (YJ a c (h+k)) (c-(h+k)) ((L.drop (h+k)).take n) wx (by rw[List.length_take,List.length_drop]; omega) hs';rw[List.length_take,List.length_drop,Nat.min_eq_left hs] at this;exact this
    have hlB:((L.drop (h+k)).take n).length=n:=(by rw[List.length_take,List.length_drop]; omega);generalize (L.drop (h+k)).take n=B at *
    subst hlB;have hr1:L.length-(h+k)<=1000000:=(by omega);have hBL:B.length<=1000000:=(by omega);generalize L.length-(h+k)=r at *
    generalize t / 8=q at *
    clear h2 hk hrd hg;go_enter Tryz.func144,Tryz.ntmps144;go_wp2_with fail;refine cS.mono ?_;rintro e w1 ⟨rfl,hb⟩;have hbl:=VR hbn hb;have K:=(Xk w _ _ _ _).below hb;have K':=Z9 K;obtain⟨k0,k1,k2,k3,kf⟩:=K;clear cS hbn hb hz;go_wp2_with fail;obtain⟨W,hW,mF,QB,-,hzW⟩:=Nk K'.out hbl (Nat.le_refl _) (Z8 q) (Z8 2) (Z7 0) (.slice none 0 0);rw[hW];clear k0 k1 k2 k3 kf hbl K' hW;have K2:=Z9 mF;obtain⟨k0,k1,k2,k3,kf⟩:=mF;refine(cR _ (ZP HS.out QB)).mono ?_;rintro e w2 ⟨rfl,rfl⟩;clear cR;go_wp2_with fail;refine(cC _ (ZP HS2.out QB)).mono ?_;rintro e w3 ⟨v3,rfl,ho3,hb3⟩;have K3:=Z9 (K2.out.below hb3);have zI:=VR QB hb3;have hgl:=K2.out.lt;obtain⟨a3,c3,rfl,-,-⟩:=Own.sl ho3;clear k0 k1 k2 k3 kf cC hb3 K2;obtain⟨k0,k1,k2,k3,kf⟩:=K3.out;go_wp2;clear k0 k1 k2 k3 kf;obtain⟨W2,hW2,KE,J5,ho4⟩:=al6 K3.out zI (Nat.le_refl _) (.slice a3 B.length c3);rw[hW2];obtain⟨W3,hW3,uJ,SC,mD,-⟩:=Nk KE J5 (Nat.le_refl _) (Z8 q) (Z8 2) (Z7 0) (.slice a3 B.length c3);rw[hW3];have hO:=(mD _ _ _ (ho4 _ _ _ ho3 hgl) hgl).base QB.size;clear hW2 hW3 KE J5;obtain⟨k0,k1,k2,k3,kf⟩:=uJ;exact bodyPost_ret (v:=.tuple #[.agg #[Z8 q,Z8 2,Z7 0,.slice a3 B.length c3],Z8 ((h+k+B.length:Nat):Int),Z8 0]) (by simp[results,Tryz.results144,go_sem,k0,k1,k2,k3]) rfl ⟨_,rfl,hO,SC⟩
  · rw[Qe hrd hg h2 hk (by omega)];rw[List.length_drop] at hs;have hr1:L.length-(h+k)<=1000000:=(by omega);have hr2:L.length-(h+k)<n:=(by omega);generalize L.length-(h+k)=r at *
    generalize t / 8=q at *
    clear h2 hk hrd hg hs;go_enter Tryz.func144,Tryz.ntmps144;go_wp2_with fail;refine cS.mono ?_;rintro e w1 ⟨rfl,hb⟩;have hbl:=VR hbn hb;have K:=(Xk w _ _ _ _).below hb;have K':=Z9 K;obtain⟨k0,k1,k2,k3,kf⟩:=K;clear cS hbn hb hz;go_wp2_with fail;obtain⟨W,hW,mF,QB,-,hzW⟩:=Nk K'.out hbl (Nat.le_refl _) (Z8 q) (Z8 2) (Z7 0) (.slice none 0 0);rw[hW];clear k0 k1 k2 k3 kf hbl K' hW;have K2:=Z9 mF;obtain⟨k0,k1,k2,k3,kf⟩:=mF;refine(cR _ (ZP HS.out QB)).mono ?_;rintro e w2 ⟨rfl,rfl⟩;clear cR;go_wp2;clear k0 k1 k2 k3 kf;obtain⟨W3,hW3,uJ,SC,-,-⟩:=Nk K2.out QB (Nat.le_refl _) (Z8 0) (Z8 0) (Z7 0) (.slice none 0 0);rw[hW3];clear hW3;obtain⟨k0,k1,k2,k3,kf⟩:=uJ;exact bodyPost_ret (v:=.tuple #[.agg #[Z8 0,Z8 0,Z7 0,.slice none 0 0],Z8 0,Z8 5]) (by simp[results,Tryz.results144,go_sem,k0,k1,k2,k3]) rfl (Vo SC)
def cellsOf (p:Zj×Value):List Value:=[Z8 p.1.num,Z8 p.1.kind,Z7 p.1.val,p.2]
def row4 (ps:List (Zj×Value)):List Value:=ps.flatMap cellsOf
theorem Vq (ps:List (Zj×Value)):∀ (i j:Nat) (p:Zj×Value),ps[i]?=some p->j<4->(row4 ps)[i*4+j]?=(cellsOf p)[j]?:=by
  induction ps with
  | nil=>intro i j p h; simp at h
  | cons q ps ih=>
    intro i j p h hj;have hr:row4 (q::ps)=cellsOf q++row4 ps:=rfl;have hq:(cellsOf q).length=4:=rfl;rw[hr];cases i with
    | zero=>
      simp only[List.getElem?_cons_zero,Option.some.injEq] at h;subst h;rw[List.getElem?_append_left (by omega)];simp
    | succ i=>
      rw[List.getElem?_cons_succ] at h;rw[List.getElem?_append_right (by omega),hq,show(i+1)*4+j-4=i*4+j by omega];exact ih i j p h hj
theorem Ir (ps:List (Zj×Value))(p:Zj×Value):row4 (ps++[p])=row4 ps++cellsOf p:=by
  simp only[row4,List.flatMap_append,List.flatMap_cons,List.flatMap_nil,List.append_nil]
def U5 (w:World)(B:Nat)(v:Value)(ps:List (Zj×Value)):Prop:=
  w.ownsRow B 77 4 v ps.length (row4 ps)/\∀ p,p∈ps->Own w B p.2 p.1.bytes
theorem U5.nil (w:World)(B:Nat):U5 w B (.slice none 0 0) []:=⟨World.ownsRow_nil _ _ _ _,fun p h=>by simp at h⟩
theorem U5.below {w w':World}{B:Nat}{v:Value}{ps:List (Zj×Value)}(h:U5 w B v ps)(hb:Below w.heap.size w w'):U5 w' B v ps:=⟨own_below h.1 hb,fun p hp=>(h.2 p hp).below hb⟩
theorem U5.form {w:World}{B:Nat}{v:Value}{ps:List (Zj×Value)}(h:U5 w B v ps):∃ a c,v=.slice a ps.length c/\ps.length<=c:=by
  rcases h.1.2 with⟨rfl,h0⟩ | ⟨g,cap,cur,rfl,_,_,hcap,_⟩
  · exact⟨none,0,by rw[h0],by omega⟩
  · exact⟨_,cap,rfl,hcap⟩
theorem U5.step {B:Nat}{w w2:World}{v v':Value}{ps:List (Zj×Value)}{p:Zj×Value}{o:Obj}(h:U5 w B v ps)(hc:Own w B p.2 p.1.bytes)
    (hown:w2.ownsRow B 77 4 v' (ps.length+1) (row4 ps++cellsOf p)) (hgrow:(w.alloc o).grownBy w2 v.ownBlock):U5 w2 B v' (ps++[p]):=by
  have keep:∀ (c:Value) (ys:List Int),Own w B c ys->Own w2 B c ys:=fun c ys hh=>(World.ownsRow.alloc hh o).kept hgrow (own_ne hh h.1 (by decide));refine⟨by rw[Ir,List.length_append]; exact hown,fun q hq=>?_⟩;rcases List.mem_append.1 hq with hq | hq
  · exact keep _ _ (h.2 q hq)
  · obtain rfl:q=p:=(by simpa using hq);exact keep _ _ hc
theorem N8 (w:World)(p:Zj×Value)(g:Nat)(hg:g=w.heap.size):∀ j u,(cellsOf p)[j]?=some u->(w.alloc (.cells #[Z8 p.1.num,Z8 p.1.kind,Z7 p.1.val,p.2] 77)).cell? ((⟨g,0,none⟩:Addr).add j)=some u:=by
  subst hg;intro j u hj;rw[Go.WideShapes.add_plain,cell_of_row _ w.heap.size (0+j) _ 77 (0,0) (heap_alloc_new w _),Nat.zero_add];simpa [cellsOf] using hj
theorem cells_one {w:World}{B:Nat}{p:Zj×Value}{L:List Int}(h:Own w B p.2 L):∀ u∈cellsOf p,u.oneCell'=true:=by
  obtain⟨a,c,he,-,-⟩:=h.sl;intro u hu;simp only[cellsOf,List.mem_cons,List.not_mem_nil,or_false,he] at hu;rcases hu with rfl | rfl | rfl | rfl <;> rfl
def wY (w:World)(R:List Zj×Int×Int)(e:Ending)(w':World):Prop:=
  ∃ v ps,e=.returned (.tuple #[v,Z8 R.2.1,Z8 R.2.2])/\ps.map Prod.fst=R.1/\U5 w' w.heap.size v ps/\Below w.heap.size w w'
theorem Qh {w w':World}{X6:List Zj×Int×Int}{i e0:Int}{j:Int}(h:X6=([],i,e0))(hj:j=i)(hb:Below w.heap.size w w'):wY w X6 (.returned (.tuple #[.slice none 0 0,Z8 j,Z8 e0])) w':=by
  subst h hj;exact⟨_,[],rfl,rfl,U5.nil _ _,hb⟩
theorem DN {w w':World}{X6:List Zj×Int×Int}{v:Value}{ps:List (Zj×Value)}(h:X6=(ps.map Prod.fst,0,0))(hr:U5 w' w.heap.size v ps)(hb:Below w.heap.size w w'):wY w X6 (.returned (.tuple #[v,Z8 0,Z8 0])) w':=by
  subst h;exact⟨_,ps,rfl,rfl,hr,hb⟩
theorem MO (a:Option Addr)(c:Nat)(L:List Int)(w:World)(hL:L.length<=1000000)(hr:Sl w a c L)(hw:∀ x,x∈L->W8 x)(hc:L.length<=c) :
    Calls Tryz.prog 129 #[.slice a L.length c] w (wY w (YO L)):=by
  obtain⟨i0,hi,hz0,hz1,hz2⟩:=info_parts info25;have HI:=Z9 hi;have HZ0:=Z9 hz0;have HZ1:=Z9 hz1;have HZ2:=Z9 hz2;have HD:Hid (YO L=Xl (L.length+1) [] 0 L):=rfl;have HR:=Z9 hr;have HW:=Z9 hw;generalize YO L=X6 at *
  clear hi hz0 hz1 hz2 hr hw;go_enter Tryz.func129,Tryz.ntmps129;go_wp2_with fail;go_loopg [2,5] L.length (fun g s2 s5 wx=>∃ (i f m:Nat) (ra:Option Addr) (R:List Int) (ps:List (Zj×Value)),s5=.slice ra R.length m/\R.length<=m/\i+R.length<=L.length/\L.length<=i+R.length/\R.length<f/\ps.length<=1024/\Hid (Sl w ra m R)/\Hid (∀ x,x∈R->W8 x) /\
    Hid (X6=Xl f (ps.map Prod.fst) i R)/\Hid (U5 wx w.heap.size s2 ps)/\Below w.heap.size w wx/\R.length=g)
  case atStart=>exact⟨0,L.length+1,c,a,L,[],rfl,hc,by omega,by omega,by omega,by simp,HR,HW,HD,U5.nil _ _,Below.refl _ _,rfl⟩
  case round=>
    obtain⟨i,f,m,ra,R,ps,rfl,hRm,hi1,hi2,hf,hps,hsl,Gf,hd,hrow,hb,rfl⟩:=hrel;have hsz:=hb.size;obtain⟨va,vc,rfl,hvc⟩:=hrow.out.form;obtain⟨f',rfl⟩:∃ f',f=f'+1:=⟨f-1,by omega⟩;by_cases h0:R.length=0
    · have hfin:X6=(ps.map Prod.fst,0,0):=(by rw[hd.out,Ob h0]);have hlt:¬ 0<R.length:=(by omega);have QE:=Z9 hfin;clear hd h0 hfin;go_wp2
      go_ret3
      exact DN QE.out hrow.out hb
    · have hpos:0<R.length:=(by omega);by_cases h1:ps.length=1024
      · have hfin:X6=([],(i:Int),3):=(by rw[hd.out,O5 h0 (by simp; omega)]);have hq:((ps.length:Int) == 1024)=true:=(by rw[h1]; rfl);have QE:=Z9 hfin;clear hd h0 hfin h1;go_wp2
        go_ret3
        exact Qh QE.out (by omega) hb
      · have hq:((ps.length:Int) == 1024)=false:=(by rw[beq_eq_false_iff_ne]; omega);have cF:=fun wx hs=>zJ ra m R wx (by omega) hs Gf.out hRm;rcases F9 R Gf.out (by omega) with⟨e0,ho,he⟩ | ⟨x,hx,ho,hle,-⟩
        · have hfin:X6=([],(i:Int),e0):=(by rw[hd.out,Oa h0 (by simp; omega) ho he]);rw[ho] at cF;have h3:(e0 != 0)=true:=(by simpa using he);have h4:(e0 == 0)=false:=(by simpa using he);have QE:=Z9 hfin;clear hd h0 h1 ho he hfin;go_wp2_with fail;refine(cF _ (ZP hsl.out hb)).mono ?_;rintro e w2 ⟨v2,rfl,ho2,hb2⟩;have hb3:=VR hb hb2;obtain⟨a2,c2,rfl,-,-⟩:=ho2.sl;clear cF hb2 ho2;go_wp2
          go_ret3
          exact Qh QE.out (by omega) (hb3.alloc hb3.size _)
        · have hd2:X6=Xl f' ((ps++[(x,Value.slice none 0 0)]).map Prod.fst) (i+(Yq x).length) (R.drop (Yq x).length):=by
            rw[hd.out,SE h0 (by simp; omega) ho];simp
          rw[ho] at cF;have aM9:ps.length+1<=1024:=(by omega);have hs2:=Wj x;have hlB:=hx.2.2.2;have hsl2:=fun wx=>VI .i64 ra R.length m (Yq x).length wx hle;have HS2:=Z9 (TY hsl.out (Yq x).length hRm);have HW2:=Z9 (XC Gf.out (Yq x).length);have hlen:(R.drop (Yq x).length).length=R.length-(Yq x).length:=List.length_drop;generalize R.drop (Yq x).length=R2 at *
          generalize (Yq x).length=sz at *
          have HLEN:=Z9 hlen;have HD2:=Z9 hd2;clear hd h0 h1 ho hd2 hlen;go_wp2_with fail;refine(cF _ (ZP hsl.out hb)).mono ?_;rintro e w2 ⟨v2,rfl,ho2,hb2⟩;have hb3:=VR hb hb2;have hrow2:=hrow.out.below hb2;obtain⟨a2,c2,rfl,-,-⟩:=ho2.sl;have dO:=Z9 (ho2.base hsz);have HR2:=Z9 hrow2;clear cF hb2 ho2 hrow hrow2;go_wp2_with (at_builtin; refine wpList_append_own _ rfl _ _ 78 rfl w.heap.size 77 i0 (.agg #[Z8 0,Z8 0,Z7 0,.slice none 0 0]) 4 48 Tryz.underlying78 HI.out HZ0.out HZ1.out HZ2.out rfl (by decide) (.slice va ps.length vc) ps.length (row4 ps) rfl ((HR2.out.1.alloc _).alloc _) ⟨w2.heap.size+1,0,none⟩ 1 1 (cellsOf (x,.slice a2 x.bytes.length c2)) rfl rfl (N8 _ (x,.slice a2 x.bytes.length c2) _ (by simp)) (cells_one (p:=(x,.slice a2 x.bytes.length c2)) dO.out) ?c1 ?c2 ?c3 ?_)
          case c1=>unfold maxLen; omega
          case c2=>omega
          case c3=>have:=hb3.size; simp; omega
          intro v3 w3 hown3 hgrow3 _;have HR3:=Z9 (U5.step (p:=(x,Value.slice a2 x.bytes.length c2)) (HR2.out.below ((Below.refl _ _).alloc (Nat.le_refl _) _)) (dO.out.below ((Below.refl _ _).alloc (Nat.le_refl _) _)) hown3 hgrow3);have hb4:Below w.heap.size w w3:=((hb3.alloc hb3.size _).alloc (by have:=hb3.size; simp; omega) _).grown hgrow3 (by have:=hb3.size; simp; omega) (fun j hj=>(HR2.out.1.lt j hj).1);clear hown3 hgrow3 HR2 dO;have HD3:Hid (X6=Xl f' ((ps++[(x,Value.slice a2 x.bytes.length c2)]).map Prod.fst) (i+sz) R2):=Z9 (HD2.out.trans (by simp));have h5:=HLEN.out;have h6:R2.length<=m-sz:=(by omega);have h7:i+sz+R2.length<=L.length:=(by omega);have h8:L.length<=i+sz+R2.length:=(by omega);have h9:R2.length<f':=(by omega);have h10:R2.length<R.length:=(by omega);have h11:(ps++[(x,Value.slice a2 x.bytes.length c2)]).length<=1024:=(by rw[List.length_append,List.length_singleton]; omega);clear h5 HD2;go_wp2_with fail;go_roundg R2.length
          case measure=>exact h10
          case rel=>exact⟨i+sz,f',m-sz,YJ ra m sz,R2,_,by rw[HLEN.out],h6,h7,h8,h9,h11,HS2,HW2,HD3,HR3,hb4,rfl⟩
end Go.Proofs.YtfpnnmeblefkkaaGreatDoor
