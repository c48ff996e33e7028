/-
  Texts joined.
-/
import Derived.Test.YtnelmomagdcmnaaGreatJ11
set_option maxRecDepth 100000
set_option maxHeartbeats 8000000
set_option linter.unusedSimpArgs false
set_option linter.unusedVariables false
namespace Go.Proofs.YtnelmomagdcmnaaGreat.Sl
open Go.RowKit
def rH (T:List Sn):Int->List Nat->Prop
 | fr,[]=>fr=-1
 | fr,i::r=>fr=i/\i<T.length/\rH T (T.getD i Xx).nx r
theorem rH.set {T:List Sn}{i:Nat}{y:Sn}:∀ {r:List Nat} {fr:Int},rH T fr r->i ∉ r->rH (T.set i y) fr r
 | [],_,h,_=>h
 | j::r,_,h,hn=>by
  have hij:i≠j:=fun e=>hn (by simp[e]);refine⟨h.1,by rw[List.length_set]; exact h.2.1,?_⟩;rw[Xn _ _ _ _ _ hij];exact rH.set h.2.2 fun q=>hn (by simp[q])
theorem rH.app {T:List Sn}{x:Sn}:∀ {r:List Nat} {fr:Int},rH T fr r->rH (T++[x]) fr r
 | [],_,h=>h
 | j::r,_,h=>by
  refine⟨h.1,by rw[List.length_append]; exact Nat.lt_add_right _ h.2.1,?_⟩;rw[WE _ _ _ _ h.2.1];exact rH.app h.2.2
structure Lk (m:Sm)(T:List Sn)(fr:Int):Prop where
 len:T.length=m.P.length
 full:∀ i,i<T.length->(T.getD i Xx).full=(m.P.getD i X5).full
 e:∀ i,i<T.length->(T.getD i Xx).e=(m.P.getD i X5).e
 us:∀ i,i<T.length->(T.getD i Xx).us=if (m.P.getD i X5).full=true then ((m.P.getD i X5).us:Int)-1 else (m.P.getD i X5).us
 ch:rH T fr m.F.reverse
theorem Lk.new (n:Int):Lk (newS n) [] (-1):=⟨rfl,fun i h=>by simp at h,fun i h=>by simp at h,fun i h=>by simp at h,rfl⟩
theorem Lk.upd {m:Sm}{T:List Sn}{fr fr2:Int}(h:Lk m T fr){i:Nat}(hi:i<T.length){y:Sn}{p:Pn}{F:List Nat}(h1:y.full=p.full)(h2:y.e=p.e)(h3:y.us=if p.full=true then (p.us:Int)-1 else p.us)(hc:rH (T.set i y) fr2 F.reverse):Lk ⟨m.mo,m.P.set i p,F⟩ (T.set i y) fr2:=by
 have hl:=h.len;have key:∀ (X:Sn->Pn->Prop),X y p->(∀ j,j<T.length->X (T.getD j Xx) (m.P.getD j X5))->∀ j,j<(T.set i y).length->X ((T.set i y).getD j Xx) ((m.P.set i p).getD j X5):=fun X x1 x2 j hj=>by
  rw[List.length_set] at hj;by_cases hij:i=j
  ·subst hij; rw[YK _ _ _ _ hi,YK _ _ _ _ (by omega)]; exact x1
  ·rw[Xn _ _ _ _ _ hij,Xn _ _ _ _ _ hij]; exact x2 j hj
 exact⟨by rw[List.length_set,List.length_set]; exact hl,key (fun x q=>x.full=q.full) h1 h.full,key (fun x q=>x.e=q.e) h2 h.e,key (fun x q=>x.us=if q.full=true then (q.us:Int)-1 else q.us) h3 h.us,hc⟩
theorem Lk.app {m:Sm}{T:List Sn}{fr:Int}(h:Lk m T fr):Lk ⟨m.mo,m.P++[X5],m.F⟩ (T++[Xx]) fr:=by
 have hl:=h.len;have key:∀ (X:Sn->Pn->Prop),X Xx X5->(∀ j,j<T.length->X (T.getD j Xx) (m.P.getD j X5))->∀ j,j<(T++[Xx]).length->X ((T++[Xx]).getD j Xx) ((m.P++[X5]).getD j X5):=fun X x1 x2 j hj=>by
  rw[List.length_append,List.length_singleton] at hj;by_cases hij:j<T.length
  ·rw[WE _ _ _ _ hij,WE _ _ _ _ (by omega)]; exact x2 j hij
  ·obtain rfl:j=T.length:=(by omega);rw[Xt,hl,Xt];exact x1
 exact⟨by simp[hl],key (fun x q=>x.full=q.full) rfl h.full,key (fun x q=>x.e=q.e) rfl h.e,key (fun x q=>x.us=if q.full=true then (q.us:Int)-1 else q.us) rfl h.us,h.ch.app⟩
structure TkO (m:Sm)(e:En)(T1:List Sn)(Pm:Int)(i:Nat):Prop where
 il:i<T1.length
 nf:(T1.getD i Xx).full=false
 hd:XA m=((i:Int),(T1.getD i Xx).us)
 lk:∀ d,Lk (UY m e) (T1.set i ⟨e,d,true,(T1.getD i Xx).us,(T1.getD i Xx).nx⟩) Pm
theorem Lk.yg {m:Sm}{T:List Sn}{fr:Int}{u:Nat}(h:Lk m T fr)(hm:Wm m u)(hc:Yq m.P<m.mo){F:List Nat}{i:Nat}(hF:m.F=F++[i])(e:En):fr=i/\TkO m e T (T.getD i Xx).nx i:=by
 obtain⟨h1,h2,-⟩:=Vo e hc hF;have hch:=h.ch;rw[hF,List.reverse_append] at hch;obtain⟨e1,e2,e3⟩:=hch;have hi:=hm.fr i (by rw[hF]; simp);have hnd:=hm.nd;rw[hF,List.nodup_append] at hnd;have hni:i ∉ F:=fun h1=>hnd.2.2 i h1 i (by simp) rfl;have hu:=h.us i e2;rw[hi.2,if_neg (by decide)] at hu;refine⟨e1,e2,by rw[h.full i e2]; exact hi.2,by rw[h2,hu],fun d=>?_⟩;rw[h1];exact h.upd e2 (p:=⟨true,(m.P.getD i X5).us+1,e⟩) rfl rfl (by rw[if_pos rfl]; show(T.getD i Xx).us=_; rw[hu]; show((m.P.getD i X5).us:Int)=(((m.P.getD i X5).us+1:Nat):Int)-1; omega) (e3.set (by simpa using hni))
theorem Lk.Kr {m:Sm}{T:List Sn}{fr:Int}(h:Lk m T fr)(hc:Yq m.P<m.mo)(hF:m.F=[])(e:En):fr=-1/\TkO m e (T++[Xx]) fr T.length:=by
 obtain⟨h1,h2,-⟩:=WR e hc hF;have hch:=h.ch;rw[hF] at hch;have hl:T.length<(T++[Xx]).length:=by simp
 have hz:(T++[Xx]).getD T.length Xx=Xx:=Xt _ _ _;refine⟨hch,hl,by rw[hz]; rfl,by rw[h2,hz,h.len]; rfl,fun d=>?_⟩;rw[h1,hz];have h3:=h.app;have h4:=h3.upd hl (y:=⟨e,d,true,0,0⟩) (p:=⟨true,1,e⟩) (F:=[]) (fr2:=fr) rfl rfl rfl hch;have e5:(m.P++[X5]).set T.length ⟨true,1,e⟩=m.P++[⟨true,1,e⟩]:=by rw[h.len]; simp
 rw[e5] at h4;exact h4
theorem Lk.rem {m:Sm}{T:List Sn}{fr:Int}{u:Nat}(h:Lk m T fr)(hm:Wm m u){q:Int×Int}(hv:X9 m q=true){i:Nat}(hi:q.1=i):Lk (TU m q) (T.set i ⟨Zp,YE,false,(T.getD i Xx).us+1,fr⟩) i:=by
 obtain⟨i2,hi2,hil,hf,hu⟩:=Wj hv;obtain rfl:i2=i:=by omega
 rw[WQ hv hi];have hl:=h.len;have Om:i2<T.length:=by omega
 have hus:=h.us i2 Om;rw[hf,if_pos rfl] at hus;have hni:i2 ∉ m.F:=fun h1=>by have:=(hm.fr i2 h1).2; rw[hf] at this; cases this
 refine h.upd Om (p:=⟨false,(m.P.getD i2 X5).us,Zp⟩) rfl rfl ?_ ?_
 ·rw[if_neg Bool.false_ne_true];show(T.getD i2 Xx).us+1=((m.P.getD i2 X5).us:Int);rw[hus]; omega
 ·rw[List.reverse_append];refine⟨rfl,by rw[List.length_set]; exact Om,?_⟩;rw[YK _ _ _ _ Om];exact h.ch.set (by simpa using hni)
theorem val_neg {m:Sm}{h:Int×Int}(h0:h.1<0):X9 m h=false:=by
 unfold X9;rw[decide_eq_false (by omega)];rfl
theorem jJ {m:Sm}{h:Int×Int}(h0:(m.P.length:Int)<=h.1):X9 m h=false:=by
 unfold X9;rw[decide_eq_false (p:=h.1<(m.P.length:Int)) (by omega)];simp
theorem ad5 {m:Sm}{h:Int×Int}{i:Nat}(hi:h.1=i)(hl:i<m.P.length):X9 m h=((m.P.getD i X5).full && decide (((m.P.getD i X5).us:Int)-1=h.2)):=by
 unfold X9;rw[hi,decide_eq_true (by omega),decide_eq_true (by omega)];rfl
def VT (w:World)(g:Nat)(S:Nat->Prop)(m:Sm):Prop:=∃ a c T fr,Mp w g a c T m.mo fr (Yq m.P) (WV m.P)/\Lk m T fr/\S=Sp g a T
def l7 (g B:Nat)(S:Nat->Prop)(m:Sm)(w w':World):Prop:=∃ S',VT w' g S' m/\(∀ k,S' k->S k∨w.heap.size<=k)/\ZL B S w w'
theorem ZF {w w':World}{b o:Nat}{cs:List Value}(h:w.rangeAt b o cs)(hb:Below w.heap.size w w'):w'.rangeAt b o cs:=fun j v hv=>by
 have:=h j v hv;exact(hb.cell (p:=⟨b,o+j,none⟩) (World.block_lt_of_cell? w _ this)).trans this
end Go.Proofs.YtnelmomagdcmnaaGreat.Sl
namespace Go.Proofs.YtnelmomagdcmnaaGreat.Sl
attribute [local irreducible] wpList wpQuiet
open Go.RowKit
section
variable {ρ : Operand -> Value} {o : Oper} {x y : Operand}
theorem rM (ho:o.op=.call { callee:=.builtin .max,args:=#[x,y],argTypes:=#[3,3] })(a b:Int)(hx:ρ x=.int .i64 a)(hy:ρ y=.int .i64 b)(w:World):(execOp ρ o).run Tryz.prog w=.ok (.value (.int .i64 (max a b))) w:=by
 unfold execOp;simp only[ho,hx,hy,resolve,invoke,builtin,Sem.run_bind,Sem.run_pure,Result.andThen_ok,List.map_toArray,List.map_cons,List.map_nil];simp[go_sem] <;> (by_cases hab:a<b <;> first | (rw[if_pos hab,Int.max_eq_right (by omega)]) | (rw[if_neg hab,Int.max_eq_left (by omega)]))
theorem gV (ho:o.op=.call { callee:=.builtin .min,args:=#[x,y],argTypes:=#[3,3] })(a b:Int)(hx:ρ x=.int .i64 a)(hy:ρ y=.int .i64 b)(w:World):(execOp ρ o).run Tryz.prog w=.ok (.value (.int .i64 (min a b))) w:=by
 unfold execOp;simp only[ho,hx,hy,resolve,invoke,builtin,Sem.run_bind,Sem.run_pure,Result.andThen_ok,List.map_toArray,List.map_cons,List.map_nil];simp[go_sem] <;> (by_cases hab:b<a <;> first | (rw[if_pos hab,Int.min_eq_right (by omega)]) | (rw[if_neg hab,Int.min_eq_left (by omega)]))
end
theorem jL {w:World}{g:Nat}{mo fr ln bt:Int}{a:Option Addr}{n c:Nat}(x y:Int)(hX:Bx w g (hdp mo fr ln bt a n c) 147)(hx:x<0):Calls Tryz.prog 80 #[.pointer (some ⟨g,0,none⟩),.agg #[.int .i64 x,.int .i64 y]] w fun e w'=>e=.returned (.bool false)/\Below w.heap.size w w':=by
 have hb0:Below w.heap.size w (w.alloc (.cells #[.int .i64 x,.int .i64 y] 104)):=(Below.refl _ w).alloc (Nat.le_refl _) _;have hY:Bx (w.alloc (.cells #[.int .i64 x,.int .i64 y] 104)) w.heap.size #[.int .i64 x,.int .i64 y] 104:=heap_alloc_last w _;go_enter Tryz.func80,Tryz.ntmps80;go_upto_region 1 with fail;change Code.wp _ _ _ _ (w.alloc (.cells #[.int .i64 x,.int .i64 y] 104));generalize w.alloc (.cells #[.int .i64 x,.int .i64 y] 104)=W at *
 obtain⟨g3,hg3⟩:=ZR w.heap.size;rw[hg3] at hY;simp only[hg3];have Qm:=hX.below hX.lt hb0;have HB:=Z8 hb0;clear hb0 hX hg3;go_upto_region 1 with fail;refine ZT (C:=fun U=>Below W.heap.size W U) (by kernel_rfl) (by kernel_rfl) ((Below.refl _ W).drew) ?_;refine gy (.pointer (some ⟨g,0,none⟩))<|gy (.bool false)<|gy (.bool false)<|gy (.pointer (some ⟨g3,0,none⟩))<|Zx rfl ⟨g3,0,none⟩ (.int .i64 x) (fun U hU=>(hY.below hY.lt hU).ZM 0) <|
   Ze (.bool true) (fun U hU=>ZG rfl (x) (0) dT (by kernel_rfl) (by kernel_rfl) U)<|gy (.bool true)<|gy (.bool true)<|Zh<|Zh<|Zh<|Zh<|Zh<|Zh<|Zh<|Zh<|gy (.bool true) ?_
 simp only[pu];apply wpQuiet_nil;intro V hV;have HE:=HB.out.trans (hV.mono HB.out.size);go_wp2_with fail;go_ret;exact⟨rfl,HE⟩
theorem jK {w:World}{g:Nat}{mo fr ln bt:Int}{a:Option Addr}{n c:Nat}(x y:Int)(hX:Bx w g (hdp mo fr ln bt a n c) 147)(hx:0<=x)(hx2:(n:Int)<=x):Calls Tryz.prog 80 #[.pointer (some ⟨g,0,none⟩),.agg #[.int .i64 x,.int .i64 y]] w fun e w'=>e=.returned (.bool false)/\Below w.heap.size w w':=by
 have hb0:Below w.heap.size w (w.alloc (.cells #[.int .i64 x,.int .i64 y] 104)):=(Below.refl _ w).alloc (Nat.le_refl _) _;have hY:Bx (w.alloc (.cells #[.int .i64 x,.int .i64 y] 104)) w.heap.size #[.int .i64 x,.int .i64 y] 104:=heap_alloc_last w _;go_enter Tryz.func80,Tryz.ntmps80;go_upto_region 1 with fail;change Code.wp _ _ _ _ (w.alloc (.cells #[.int .i64 x,.int .i64 y] 104));generalize w.alloc (.cells #[.int .i64 x,.int .i64 y] 104)=W at *
 obtain⟨g3,hg3⟩:=ZR w.heap.size;rw[hg3] at hY;simp only[hg3];have Qm:=hX.below hX.lt hb0;have HB:=Z8 hb0;clear hb0 hX hg3;go_upto_region 1 with fail;refine ZT (C:=fun U=>Below W.heap.size W U) (by kernel_rfl) (by kernel_rfl) ((Below.refl _ W).drew) ?_;refine gy (.pointer (some ⟨g,0,none⟩))<|gy (.bool false)<|gy (.bool false)<|gy (.pointer (some ⟨g3,0,none⟩))<|Zx rfl ⟨g3,0,none⟩ (.int .i64 x) (fun U hU=>(hY.below hY.lt hU).ZM 0) <|
   Ze (.bool false) (fun U hU=>ZG rfl (x) (0) dF (by kernel_rfl) (by kernel_rfl) U)<|gy (.bool false)<|gy (.bool false)<|gy (.pointer (some ⟨g3,0,none⟩))<|Zx rfl ⟨g3,0,none⟩ (.int .i64 x) (fun U hU=>(hY.below hY.lt hU).ZM 0) <|
   gy (.pointer (some ⟨g,0,none⟩))<|gy (.pointer (some ⟨g,0,none⟩))<|gy (.pointer (some ⟨g,1,none⟩))<|Zx rfl ⟨g,1,none⟩ (.slice a n c) (fun U hU=>(Qm.below Qm.lt hU).ZM 1)<|gy (.int .i64 n) <|
   Ze (.bool true) (fun U hU=>Va rfl (x) (n) dT (by kernel_rfl) (by kernel_rfl) U)<|gy (.bool true) ?_
 simp only[pu];apply wpQuiet_nil;intro V hV;have HE:=HB.out.trans (hV.mono HB.out.size);go_wp2_with fail;go_ret;exact⟨rfl,HE⟩
theorem Dj {w:World}{g:Nat}{mo fr ln bt:Int}{b n c:Nat}(x y:Int)(hX:Bx w g (hdp mo fr ln bt (some ⟨b,0,none⟩) n c) 147){i:Nat}(hxi:x=i)(hin:i<n){s9:Sn}(hr:w.rangeAt b (0+i*44) (Qp s9))(hfu:s9.full=false):Calls Tryz.prog 80 #[.pointer (some ⟨g,0,none⟩),.agg #[.int .i64 x,.int .i64 y]] w fun e w'=>e=.returned (.bool false)/\Below w.heap.size w w':=by
 have hb0:Below w.heap.size w (w.alloc (.cells #[.int .i64 x,.int .i64 y] 104)):=(Below.refl _ w).alloc (Nat.le_refl _) _;have hY:Bx (w.alloc (.cells #[.int .i64 x,.int .i64 y] 104)) w.heap.size #[.int .i64 x,.int .i64 y] 104:=heap_alloc_last w _;subst hxi;have DU:=ZF hr hb0;go_enter Tryz.func80,Tryz.ntmps80;go_upto_region 1 with fail;change Code.wp _ _ _ _ (w.alloc (.cells #[.int .i64 i,.int .i64 y] 104));generalize w.alloc (.cells #[.int .i64 i,.int .i64 y] 104)=W at *
 obtain⟨g3,hg3⟩:=ZR w.heap.size;rw[hg3] at hY;simp only[hg3];have Qm:=hX.below hX.lt hb0;have HB:=Z8 hb0;clear hb0 hX hg3;go_upto_region 1 with fail;refine ZT (C:=fun U=>Below W.heap.size W U) (by kernel_rfl) (by kernel_rfl) ((Below.refl _ W).drew) ?_;refine gy (.pointer (some ⟨g,0,none⟩))<|gy (.bool false)<|gy (.bool false)<|gy (.pointer (some ⟨g3,0,none⟩))<|Zx rfl ⟨g3,0,none⟩ (.int .i64 i) (fun U hU=>(hY.below hY.lt hU).ZM 0) <|
   Ze (.bool false) (fun U hU=>ZG rfl (i) (0) dF (by kernel_rfl) (by kernel_rfl) U)<|gy (.bool false)<|gy (.bool false)<|gy (.pointer (some ⟨g3,0,none⟩))<|Zx rfl ⟨g3,0,none⟩ (.int .i64 i) (fun U hU=>(hY.below hY.lt hU).ZM 0) <|
   gy (.pointer (some ⟨g,0,none⟩))<|gy (.pointer (some ⟨g,0,none⟩))<|gy (.pointer (some ⟨g,1,none⟩))<|Zx rfl ⟨g,1,none⟩ (.slice (some ⟨b,0,none⟩) n c) (fun U hU=>(Qm.below Qm.lt hU).ZM 1)<|gy (.int .i64 n) <|
   Ze (.bool false) (fun U hU=>Va rfl (i) (n) dF (by kernel_rfl) (by kernel_rfl) U)<|gy (.bool false) ?_
 simp only[pu];apply wpQuiet_nil;intro V hV;have Nc:=Qm.below Qm.lt hV;have EF:=hY.below hY.lt hV;have dW:=ZF DU hV;have BU:=Z8 (HB.out.trans (hV.mono HB.out.size));clear Qm hY DU hV HB hr;go_upto_region 3 with fail;refine ZT (C:=fun U=>Below V.heap.size V U) (by kernel_rfl) (by kernel_rfl) ((Below.refl _ V).drew) ?_;refine gy (.pointer (some ⟨g,0,none⟩))<|gy (.pointer (some ⟨g,0,none⟩))<|gy (.pointer (some ⟨g,1,none⟩))<|Zx rfl ⟨g,1,none⟩ (.slice (some ⟨b,0,none⟩) n c) (fun U hU=>(Nc.below Nc.lt hU).ZM 1)<|gy (.pointer (some ⟨g3,0,none⟩)) <|
   Zx rfl ⟨g3,0,none⟩ (.int .i64 i) (fun U hU=>(EF.below EF.lt hU).ZM 0)<|Ze (.pointer (some ⟨b,0+i*44,none⟩)) (fun U hU=>Po b 0 n c i hin U _ _ rfl (by kernel_rfl) (by kernel_rfl))<|gy (.pointer (some ⟨b,0+i*44,none⟩)) ?_
 simp only[pu];apply wpQuiet_nil;intro V2 hV2;have hYW:=EF.below EF.lt hV2;have DU:=ZF dW hV2;have Um:=Z8 (BU.out.trans (hV2.mono BU.out.size));clear Nc EF dW hV2 BU;go_upto_region 4 with fail;refine ZT (C:=fun U=>Below V2.heap.size V2 U) (by kernel_rfl) (by kernel_rfl) ((Below.refl _ V2).drew) ?_;refine gy (.pointer (some ⟨b,0+i*44,none⟩))<|gy (.pointer (some ⟨b,0+i*44,none⟩))<|gy (.pointer (some ⟨b,0+i*44+41,none⟩))<|Zx rfl ⟨b,0+i*44+41,none⟩ (.bool false) (fun U hU=>ZN (ZF DU hU) (j:=41) (by rw[<- hfu]; rfl) (by kernel_rfl)) <|
   gy (.bool false)<|Zh<|Zh<|Zh<|Zh<|Zh<|Zh<|Zh<|gy (.bool false)<|gy (.bool false) ?_
 simp only[pu];apply wpQuiet_nil;intro V3 TN;have HE:=Um.out.trans (TN.mono Um.out.size);go_wp2_with fail;go_ret;exact⟨rfl,HE⟩
theorem has_eq {w:World}{g:Nat}{mo fr ln bt:Int}{b n c:Nat}(x y:Int)(hX:Bx w g (hdp mo fr ln bt (some ⟨b,0,none⟩) n c) 147){i:Nat}(hxi:x=i)(hin:i<n){s9:Sn}(hr:w.rangeAt b (0+i*44) (Qp s9))(hfu:s9.full=true)(hus:s9.us=y):Calls Tryz.prog 80 #[.pointer (some ⟨g,0,none⟩),.agg #[.int .i64 x,.int .i64 y]] w fun e w'=>e=.returned (.bool true)/\Below w.heap.size w w':=by
 have hb0:Below w.heap.size w (w.alloc (.cells #[.int .i64 x,.int .i64 y] 104)):=(Below.refl _ w).alloc (Nat.le_refl _) _;have hY:Bx (w.alloc (.cells #[.int .i64 x,.int .i64 y] 104)) w.heap.size #[.int .i64 x,.int .i64 y] 104:=heap_alloc_last w _;subst hxi;have DU:=ZF hr hb0;go_enter Tryz.func80,Tryz.ntmps80;go_upto_region 1 with fail;change Code.wp _ _ _ _ (w.alloc (.cells #[.int .i64 i,.int .i64 y] 104));generalize w.alloc (.cells #[.int .i64 i,.int .i64 y] 104)=W at *
 obtain⟨g3,hg3⟩:=ZR w.heap.size;rw[hg3] at hY;simp only[hg3];have Qm:=hX.below hX.lt hb0;have HB:=Z8 hb0;clear hb0 hX hg3;go_upto_region 1 with fail;refine ZT (C:=fun U=>Below W.heap.size W U) (by kernel_rfl) (by kernel_rfl) ((Below.refl _ W).drew) ?_;refine gy (.pointer (some ⟨g,0,none⟩))<|gy (.bool false)<|gy (.bool false)<|gy (.pointer (some ⟨g3,0,none⟩))<|Zx rfl ⟨g3,0,none⟩ (.int .i64 i) (fun U hU=>(hY.below hY.lt hU).ZM 0) <|
   Ze (.bool false) (fun U hU=>ZG rfl (i) (0) dF (by kernel_rfl) (by kernel_rfl) U)<|gy (.bool false)<|gy (.bool false)<|gy (.pointer (some ⟨g3,0,none⟩))<|Zx rfl ⟨g3,0,none⟩ (.int .i64 i) (fun U hU=>(hY.below hY.lt hU).ZM 0) <|
   gy (.pointer (some ⟨g,0,none⟩))<|gy (.pointer (some ⟨g,0,none⟩))<|gy (.pointer (some ⟨g,1,none⟩))<|Zx rfl ⟨g,1,none⟩ (.slice (some ⟨b,0,none⟩) n c) (fun U hU=>(Qm.below Qm.lt hU).ZM 1)<|gy (.int .i64 n) <|
   Ze (.bool false) (fun U hU=>Va rfl (i) (n) dF (by kernel_rfl) (by kernel_rfl) U)<|gy (.bool false) ?_
 simp only[pu];apply wpQuiet_nil;intro V hV;have Nc:=Qm.below Qm.lt hV;have EF:=hY.below hY.lt hV;have dW:=ZF DU hV;have BU:=Z8 (HB.out.trans (hV.mono HB.out.size));clear Qm hY DU hV HB hr;go_upto_region 3 with fail;refine ZT (C:=fun U=>Below V.heap.size V U) (by kernel_rfl) (by kernel_rfl) ((Below.refl _ V).drew) ?_;refine gy (.pointer (some ⟨g,0,none⟩))<|gy (.pointer (some ⟨g,0,none⟩))<|gy (.pointer (some ⟨g,1,none⟩))<|Zx rfl ⟨g,1,none⟩ (.slice (some ⟨b,0,none⟩) n c) (fun U hU=>(Nc.below Nc.lt hU).ZM 1)<|gy (.pointer (some ⟨g3,0,none⟩)) <|
   Zx rfl ⟨g3,0,none⟩ (.int .i64 i) (fun U hU=>(EF.below EF.lt hU).ZM 0)<|Ze (.pointer (some ⟨b,0+i*44,none⟩)) (fun U hU=>Po b 0 n c i hin U _ _ rfl (by kernel_rfl) (by kernel_rfl))<|gy (.pointer (some ⟨b,0+i*44,none⟩)) ?_
 simp only[pu];apply wpQuiet_nil;intro V2 hV2;have hYW:=EF.below EF.lt hV2;have DU:=ZF dW hV2;have Um:=Z8 (BU.out.trans (hV2.mono BU.out.size));clear Nc EF dW hV2 BU;go_upto_region 4 with fail;refine ZT (C:=fun U=>Below V2.heap.size V2 U) (by kernel_rfl) (by kernel_rfl) ((Below.refl _ V2).drew) ?_;refine gy (.pointer (some ⟨b,0+i*44,none⟩))<|gy (.pointer (some ⟨b,0+i*44,none⟩))<|gy (.pointer (some ⟨b,0+i*44+41,none⟩))<|Zx rfl ⟨b,0+i*44+41,none⟩ (.bool true) (fun U hU=>ZN (ZF DU hU) (j:=41) (by rw[<- hfu]; rfl) (by kernel_rfl)) <|
   gy (.bool true)<|gy (.pointer (some ⟨b,0+i*44,none⟩))<|gy (.pointer (some ⟨b,0+i*44,none⟩))<|gy (.pointer (some ⟨b,0+i*44+42,none⟩))<|Zx rfl ⟨b,0+i*44+42,none⟩ (.int .i64 s9.us) (fun U hU=>ZN (ZF DU hU) (j:=42) rfl (by kernel_rfl)) <|
   gy (.pointer (some ⟨g3,1,none⟩))<|Zx rfl ⟨g3,1,none⟩ (.int .i64 y) (fun U hU=>(hYW.below hYW.lt hU).ZM 1)<|Ze (.bool true) (fun U hU=>XY rfl (s9.us) (y) (decide_eq_true (hus)) (by kernel_rfl) (by kernel_rfl) U)<|gy (.bool true)<|gy (.bool true) ?_
 simp only[pu];apply wpQuiet_nil;intro V3 TN;have HE:=Um.out.trans (TN.mono Um.out.size);go_wp2_with fail;go_ret;exact⟨rfl,HE⟩
theorem ad4 {w:World}{g:Nat}{mo fr ln bt:Int}{b n c:Nat}(x y:Int)(hX:Bx w g (hdp mo fr ln bt (some ⟨b,0,none⟩) n c) 147){i:Nat}(hxi:x=i)(hin:i<n){s9:Sn}(hr:w.rangeAt b (0+i*44) (Qp s9))(hfu:s9.full=true)(hus:s9.us≠y):Calls Tryz.prog 80 #[.pointer (some ⟨g,0,none⟩),.agg #[.int .i64 x,.int .i64 y]] w fun e w'=>e=.returned (.bool false)/\Below w.heap.size w w':=by
 have hb0:Below w.heap.size w (w.alloc (.cells #[.int .i64 x,.int .i64 y] 104)):=(Below.refl _ w).alloc (Nat.le_refl _) _;have hY:Bx (w.alloc (.cells #[.int .i64 x,.int .i64 y] 104)) w.heap.size #[.int .i64 x,.int .i64 y] 104:=heap_alloc_last w _;subst hxi;have DU:=ZF hr hb0;go_enter Tryz.func80,Tryz.ntmps80;go_upto_region 1 with fail;change Code.wp _ _ _ _ (w.alloc (.cells #[.int .i64 i,.int .i64 y] 104));generalize w.alloc (.cells #[.int .i64 i,.int .i64 y] 104)=W at *
 obtain⟨g3,hg3⟩:=ZR w.heap.size;rw[hg3] at hY;simp only[hg3];have Qm:=hX.below hX.lt hb0;have HB:=Z8 hb0;clear hb0 hX hg3;go_upto_region 1 with fail;refine ZT (C:=fun U=>Below W.heap.size W U) (by kernel_rfl) (by kernel_rfl) ((Below.refl _ W).drew) ?_;refine gy (.pointer (some ⟨g,0,none⟩))<|gy (.bool false)<|gy (.bool false)<|gy (.pointer (some ⟨g3,0,none⟩))<|Zx rfl ⟨g3,0,none⟩ (.int .i64 i) (fun U hU=>(hY.below hY.lt hU).ZM 0) <|
   Ze (.bool false) (fun U hU=>ZG rfl (i) (0) dF (by kernel_rfl) (by kernel_rfl) U)<|gy (.bool false)<|gy (.bool false)<|gy (.pointer (some ⟨g3,0,none⟩))<|Zx rfl ⟨g3,0,none⟩ (.int .i64 i) (fun U hU=>(hY.below hY.lt hU).ZM 0) <|
   gy (.pointer (some ⟨g,0,none⟩))<|gy (.pointer (some ⟨g,0,none⟩))<|gy (.pointer (some ⟨g,1,none⟩))<|Zx rfl ⟨g,1,none⟩ (.slice (some ⟨b,0,none⟩) n c) (fun U hU=>(Qm.below Qm.lt hU).ZM 1)<|gy (.int .i64 n) <|
   Ze (.bool false) (fun U hU=>Va rfl (i) (n) dF (by kernel_rfl) (by kernel_rfl) U)<|gy (.bool false) ?_
 simp only[pu];apply wpQuiet_nil;intro V hV;have Nc:=Qm.below Qm.lt hV;have EF:=hY.below hY.lt hV;have dW:=ZF DU hV;have BU:=Z8 (HB.out.trans (hV.mono HB.out.size));clear Qm hY DU hV HB hr;go_upto_region 3 with fail;refine ZT (C:=fun U=>Below V.heap.size V U) (by kernel_rfl) (by kernel_rfl) ((Below.refl _ V).drew) ?_;refine gy (.pointer (some ⟨g,0,none⟩))<|gy (.pointer (some ⟨g,0,none⟩))<|gy (.pointer (some ⟨g,1,none⟩))<|Zx rfl ⟨g,1,none⟩ (.slice (some ⟨b,0,none⟩) n c) (fun U hU=>(Nc.below Nc.lt hU).ZM 1)<|gy (.pointer (some ⟨g3,0,none⟩)) <|
   Zx rfl ⟨g3,0,none⟩ (.int .i64 i) (fun U hU=>(EF.below EF.lt hU).ZM 0)<|Ze (.pointer (some ⟨b,0+i*44,none⟩)) (fun U hU=>Po b 0 n c i hin U _ _ rfl (by kernel_rfl) (by kernel_rfl))<|gy (.pointer (some ⟨b,0+i*44,none⟩)) ?_
 simp only[pu];apply wpQuiet_nil;intro V2 hV2;have hYW:=EF.below EF.lt hV2;have DU:=ZF dW hV2;have Um:=Z8 (BU.out.trans (hV2.mono BU.out.size));clear Nc EF dW hV2 BU;go_upto_region 4 with fail;refine ZT (C:=fun U=>Below V2.heap.size V2 U) (by kernel_rfl) (by kernel_rfl) ((Below.refl _ V2).drew) ?_;refine gy (.pointer (some ⟨b,0+i*44,none⟩))<|gy (.pointer (some ⟨b,0+i*44,none⟩))<|gy (.pointer (some ⟨b,0+i*44+41,none⟩))<|Zx rfl ⟨b,0+i*44+41,none⟩ (.bool true) (fun U hU=>ZN (ZF DU hU) (j:=41) (by rw[<- hfu]; rfl) (by kernel_rfl)) <|
   gy (.bool true)<|gy (.pointer (some ⟨b,0+i*44,none⟩))<|gy (.pointer (some ⟨b,0+i*44,none⟩))<|gy (.pointer (some ⟨b,0+i*44+42,none⟩))<|Zx rfl ⟨b,0+i*44+42,none⟩ (.int .i64 s9.us) (fun U hU=>ZN (ZF DU hU) (j:=42) rfl (by kernel_rfl)) <|
   gy (.pointer (some ⟨g3,1,none⟩))<|Zx rfl ⟨g3,1,none⟩ (.int .i64 y) (fun U hU=>(hYW.below hYW.lt hU).ZM 1)<|Ze (.bool false) (fun U hU=>XY rfl (s9.us) (y) (decide_eq_false (hus)) (by kernel_rfl) (by kernel_rfl) U)<|gy (.bool false) <|
   gy (.bool false) ?_
 simp only[pu];apply wpQuiet_nil;intro V3 TN;have HE:=Um.out.trans (TN.mono Um.out.size);go_wp2_with fail;go_ret;exact⟨rfl,HE⟩
theorem Aa {w:World}{g:Nat}{a:Option Addr}{c:Nat}{T:List Sn}{mo fr ln bt:Int}{m:Sm}(h:Mp w g a c T mo fr ln bt)(hl:Lk m T fr)(q:Int×Int):Calls Tryz.prog 80 #[.pointer (some ⟨g,0,none⟩),.agg #[.int .i64 q.1,.int .i64 q.2]] w fun e w'=>e=.returned (.bool (X9 m q))/\Below w.heap.size w w':=by
 by_cases h0:q.1<0
 ·rw[val_neg h0];exact jL _ _ h.bx h0
 ·by_cases h1:(T.length:Int)<=q.1
  ·rw[jJ (by rw[<- hl.len]; exact h1)];exact jK _ _ h.bx (by omega) h1
  ·obtain⟨i,hi⟩:∃ i:Nat,q.1=i:=⟨q.1.toNat,by omega⟩;have hil:i<T.length:=(by omega);obtain⟨b,hb,hr⟩:=h.rg hil;have hbx:=h.bx;rw[hb] at hbx;have hu:=hl.us i hil;rw[ad5 hi (by rw[<- hl.len]; exact hil),<- hl.full i hil];rw[<- hl.full i hil] at hu;cases hf:(T.getD i Xx).full with
   | false=>
    exact Dj _ _ hbx hi hil hr hf
   | true=>
    rw[hf,if_pos rfl] at hu;rw[<- hu,Bool.true_and];by_cases he:(T.getD i Xx).us=q.2
    ·rw[decide_eq_true he];exact has_eq _ _ hbx hi hil hr hf he
    ·rw[decide_eq_false he];exact ad4 _ _ hbx hi hil hr hf he
theorem Kr {w:World}{Bd g:Nat}{a:Option Addr}{c:Nat}{T:List Sn}{mo ln bt:Int}(h:Mp w g a c T mo (-1) ln bt)(hB:∀ k,Sp g a T k->Bd<=k)(hw:Bd<=w.heap.size)(hn:T.length<=100000):Calls Tryz.prog 86 #[.pointer (some ⟨g,0,none⟩)] w fun e w'=>e=.returned (.int .i64 T.length)/\∃ a1 c1,Gm Bd g a T w a1 c1 (T++[Xx]) mo (-1) ln bt w':=by
 obtain⟨a1,c1,V1,V2,hap,hst,hG⟩:=Gm.push h hB hw hn;have hX:=h.bx;have hX2:Bx V2 g (hdp mo (-1) ln bt a1 (T.length+1) c1) 147:=by have:=hG.mem.bx; rw[List.length_append,List.length_singleton] at this; exact this
 have HG:=Z8 hG;have hbd:=sG Xx w;obtain⟨n,hn0⟩:=ZR T.length;have HN:=Z8 hn0;rw[hn0] at hap hst hX hX2 hn ⊢;clear h hB hw hG hn0;go_enter Tryz.func86,Tryz.ntmps86;go_upto_region 1 with fail;refine wl<|YX (.pointer (some ⟨g,0,none⟩)) (.pointer (some ⟨g,0,none⟩)) (.pointer (some ⟨g,2,none⟩))<|ZC rfl ⟨g,2,none⟩ (.int .i64 (-1)) (hX.ZM 2) <|
  Zg (XY rfl ((-1)) ((-1)) (decide_eq_true (rfl)))<|wn ?_
 simp only[pu];go_upto_region 2 with fail;refine wl<|Qc (.pointer (some ⟨g,0,none⟩)) (.pointer (some ⟨g,0,none⟩)) (.pointer (some ⟨g,0,none⟩)) (.pointer (some ⟨g,1,none⟩))<|ZC rfl ⟨g,1,none⟩ (.slice a n c) (hX.ZM 1)<|ZQ (.agg (Ce Xx)) ?_;refine Zm (by kernel_rfl) (some 15) rfl 145 1 #[(0,.tmp 14)] rfl #[(0,.agg (Ce Xx))] (by kernel_rfl) (.slice (some ⟨w.heap.size,0,none⟩) 1 1) _ hbd ?_;refine YU rfl (some 16) rfl 145 rfl (.tmp 13) (.tmp 15) 145 rfl (.slice a n c) (.slice (some ⟨w.heap.size,0,none⟩) 1 1) (.slice a1 (n+1) c1) V1 (by kernel_rfl) (by kernel_rfl) hap ?_;refine ZB (.pointer (some ⟨g,0,none⟩)) (.pointer (some ⟨g,1,none⟩))<|Yb rfl (hst)<|wn ?_;simp only[pu];clear hap hst hbd hX;go_upto_region 3 with fail;refine wl<|YX (.pointer (some ⟨g,0,none⟩)) (.pointer (some ⟨g,0,none⟩)) (.pointer (some ⟨g,1,none⟩))<|ZC rfl ⟨g,1,none⟩ (.slice a1 (n+1) c1) (hX2.ZM 1)<|ZQ (.int .i64 (n+1)) <|
  Yd (.int .i64 (((n+1:Nat):Int)-1)) (Tv rfl ((n+1:Nat):Int) 1 (by omega))<|ZQ (.int .i64 (((n+1:Nat):Int)-1))<|wn ?_
 simp only[pu];go_wp2_with fail;go_ret;exact⟨congrArg (fun q=>Ending.returned (Value.int .i64 q)) (by omega),a1,c1,HG.out⟩
theorem rJ {w:World}{Bd g:Nat}{a:Option Addr}{c:Nat}{T:List Sn}{mo ln bt:Int}{i:Nat}(h:Mp w g a c T mo (i:Int) ln bt)(hi:i<T.length)(hB:∀ k,Sp g a T k->Bd<=k):Calls Tryz.prog 86 #[.pointer (some ⟨g,0,none⟩)] w fun e w'=>e=.returned (.int .i64 i)/\Gm Bd g a T w a c T mo (T.getD i Xx).nx ln bt w':=by
 obtain⟨V2,hst,hG⟩:=Gm.num h hB 2 (T.getD i Xx).nx (T.getD i Xx).nx ln bt (by decide) rfl;obtain⟨b,rfl,hr⟩:=h.rg hi;have hX:=h.bx;have HG:=Z8 hG;generalize T.getD i Xx=s9 at *
 obtain⟨n,hn0⟩:=ZR T.length;rw[hn0] at hX hi;clear h hB hG hn0;go_enter Tryz.func86,Tryz.ntmps86;go_upto_region 1 with fail;refine wl<|YX (.pointer (some ⟨g,0,none⟩)) (.pointer (some ⟨g,0,none⟩)) (.pointer (some ⟨g,2,none⟩))<|ZC rfl ⟨g,2,none⟩ (.int .i64 i) (hX.ZM 2) <|
  Zg (XY rfl (i) ((-1)) dF)<|wn ?_
 simp only[pu];go_upto_region 4 with fail;refine wl<|YX (.pointer (some ⟨g,0,none⟩)) (.pointer (some ⟨g,0,none⟩)) (.pointer (some ⟨g,2,none⟩))<|ZC rfl ⟨g,2,none⟩ (.int .i64 i) (hX.ZM 2)<|ZQ (.int .i64 i)<|wn ?_;simp only[pu];go_upto_region 5 with fail;refine wl<|Qc (.pointer (some ⟨g,0,none⟩)) (.pointer (some ⟨g,0,none⟩)) (.pointer (some ⟨g,0,none⟩)) (.pointer (some ⟨g,1,none⟩))<|ZC rfl ⟨g,1,none⟩ (.slice (some ⟨b,0,none⟩) n c) (hX.ZM 1)<|ZQ (.int .i64 i) <|
  Za (.pointer (some ⟨b,0+i*44,none⟩)) (Po b 0 n c i hi _ _ _ rfl (by kernel_rfl) (by kernel_rfl))<|ZQ (.pointer (some ⟨b,0+i*44+43,none⟩))<|ZC rfl ⟨b,0+i*44+43,none⟩ (.int .i64 s9.nx) (ZN hr (j:=43) rfl (by kernel_rfl)) <|
  ZB (.pointer (some ⟨g,0,none⟩)) (.pointer (some ⟨g,2,none⟩))<|Yb rfl (hst)<|wn ?_
 simp only[pu];clear hst hr hX;go_wp2_with fail;go_ret;exact⟨rfl,HG.out⟩
theorem ac9 {w:World}{Bd g:Nat}{a:Option Addr}{c:Nat}{T:List Sn}{mo fr ln bt:Int}{m:Sm}{u:Nat}(h:Mp w g a c T mo fr ln bt)(hl:Lk m T fr)(hm:Wm m u)(hc:Yq m.P<m.mo)(hB:∀ k,Sp g a T k->Bd<=k)(hw:Bd<=w.heap.size)(e:En):Calls Tryz.prog 86 #[.pointer (some ⟨g,0,none⟩)] w fun r w'=>∃ (i:Nat) (T1:List Sn) (Pm:Int) (a1:Option Addr) (c1:Nat),r=.returned (.int .i64 i)/\TkO m e T1 Pm i/\Gm Bd g a T w a1 c1 T1 mo Pm ln bt w':=by
 have hn:T.length<=100000:=by rw[hl.len]; have:=hm.pl; omega
 rcases WG m with h0 | ⟨-,⟨F,i,hF⟩ | hF⟩
 ·omega
 ·obtain⟨e1,e2⟩:=hl.yg hm hc hF e;subst e1;exact(rJ h e2.il hB).mono fun r w' q=>⟨i,T,_,a,c,q.1,e2,q.2⟩
 ·obtain⟨e1,e2⟩:=hl.Kr hc hF e;subst e1;exact(Kr h hB hw hn).mono fun r w' q=>let ⟨q1,a1,c1,q2⟩:=q; ⟨T.length,_,_,a1,c1,q1,e2,q2⟩
theorem P9 (k:Int)(w:World):Calls Tryz.prog 54 #[.int .i64 k] w fun e w'=>∃ g S,e=.returned (.pointer (some ⟨g,0,none⟩))/\VT w' g S (newS k)/\(∀ j,S j->w.heap.size<=j)/\Below w.heap.size w w':=by
 have hb:Below w.heap.size w (w.alloc (.cells (hdp (min (max k 0) 512) (-1) 0 0 none 0 0) 147)):=(Below.refl _ w).alloc (Nat.le_refl _) _;have hX:Bx (w.alloc (.cells (hdp (min (max k 0) 512) (-1) 0 0 none 0 0) 147)) w.heap.size (hdp (min (max k 0) 512) (-1) 0 0 none 0 0) 147:=heap_alloc_last w _;have hz:min (max k 0) 512=((newS k).mo:Int):=by show _=((Dp k:Nat):Int); unfold Dp; omega
 have HE:Hid (∃ g S,Ending.returned (.pointer (some ⟨w.heap.size,0,none⟩))=.returned (.pointer (some ⟨g,0,none⟩))/\VT (w.alloc (.cells (hdp (min (max k 0) 512) (-1) 0 0 none 0 0) 147)) g S (newS k)/\(∀ j,S j->w.heap.size<=j)/\Below w.heap.size w (w.alloc (.cells (hdp (min (max k 0) 512) (-1) 0 0 none 0 0) 147))):=Z8 ⟨w.heap.size,Sp w.heap.size none [],rfl,⟨none,0,[],-1,⟨by rw[<- hz]; exact hX,World.ownsRow_nil _ _ _ _,fun i h=>(by simp at h),fun x h=>(by cases h),fun i k h=>(by simp at h)⟩,Lk.new k,rfl⟩,fun j hj=>by
  rcases hj with rfl | ⟨x,hx,-⟩ | ⟨i,hi,-⟩
  ·exact Nat.le_refl _
  ·cases hx
  ·simp at hi,hb⟩
 clear hb hX hz;go_enter Tryz.func54,Tryz.ntmps54;go_upto_region 1 with fail;refine wl<|ZQ (.int .i64 k)<|Yd (.int .i64 (max k 0)) (rM rfl k 0)<|Yd (.int .i64 (min (max k 0) 512)) (gV rfl (max k 0) 512)<|ZQ (.agg (hdp (min (max k 0) 512) (-1) 0 0 none 0 0)) ?_;refine Zj rfl (some 7) rfl (.pointer (some ⟨w.heap.size,0,none⟩)) (w.alloc (.cells (hdp (min (max k 0) 512) (-1) 0 0 none 0 0) 147)) (by kernel_rfl) ?_;refine ZQ (.pointer (some ⟨w.heap.size,0,none⟩))<|wn ?_;simp only[pu];go_wp2_with fail;go_ret;exact HE.out
theorem q_len {w:World}{g:Nat}{mo fr ln bt:Int}{a:Option Addr}{n c:Nat}(hX:Bx w g (hdp mo fr ln bt a n c) 147):Calls Tryz.prog 50 #[.pointer (some ⟨g,0,none⟩)] w fun e w'=>e=.returned (.int .i64 ln)/\w=w':=by
 go_enter Tryz.func50,Tryz.ntmps50;go_upto_region 1 with fail;refine wl<|ZB (.pointer (some ⟨g,0,none⟩)) (.bool false)<|wn ?_;simp only[pu];go_upto_region 3 with fail;refine wl<|YX (.pointer (some ⟨g,0,none⟩)) (.pointer (some ⟨g,0,none⟩)) (.pointer (some ⟨g,3,none⟩))<|ZC rfl ⟨g,3,none⟩ (.int .i64 ln) (hX.ZM 3)<|ZQ (.int .i64 ln)<|wn ?_;simp only[pu];go_wp2_with fail;go_ret;exact⟨rfl,rfl⟩
theorem al9 {w:World}{g:Nat}{mo fr ln bt:Int}{a:Option Addr}{n c:Nat}(hX:Bx w g (hdp mo fr ln bt a n c) 147):Calls Tryz.prog 51 #[.pointer (some ⟨g,0,none⟩)] w fun e w'=>e=.returned (.int .i64 bt)/\w=w':=by
 go_enter Tryz.func51,Tryz.ntmps51;go_upto_region 1 with fail;refine wl<|ZB (.pointer (some ⟨g,0,none⟩)) (.bool false)<|wn ?_;simp only[pu];go_upto_region 3 with fail;refine wl<|YX (.pointer (some ⟨g,0,none⟩)) (.pointer (some ⟨g,0,none⟩)) (.pointer (some ⟨g,4,none⟩))<|ZC rfl ⟨g,4,none⟩ (.int .i64 bt) (hX.ZM 4)<|ZQ (.int .i64 bt)<|wn ?_;simp only[pu];go_wp2_with fail;go_ret;exact⟨rfl,rfl⟩
theorem ZL.but {B q:Nat}{S:Nat->Prop}{w w1 w2:World}(h:ZL B S w w1)(hb:But q w1 w2)(hq:w.heap.size<=q)(hB:B<=q):ZL B S w w2:=
 ⟨h.1.trans (hb.1.mono hB),fun k hk hn=>(hb.2 k (Nat.lt_of_lt_of_le hk h.1.size) (by omega)).trans (h.2 k hk hn)⟩
theorem Iu {m:Sm}{u:Nat}(h:Wm m u)(e:En)(hO:OQ m=true):WV (UY m e).P=WV m.P+e.raw.length:=by
 rcases WG m with h0 | ⟨h0,⟨F,i,hF⟩ | hF⟩
 ·rw[(Rh e h0).2.2] at hO; cases hO
 ·rw[(Vo e h0 hF).1];have hi:=h.fr i (by rw[hF]; simp);have hc:=OM m.P i ⟨true,(m.P.getD i X5).us+1,e⟩ hi.1;rw[hi.2] at hc;simpa only[pb,Bool.false_eq_true,if_false,if_true,Nat.add_zero] using hc
 ·rw[(WR e h0 hF).1];show WV (m.P++_)=_;rw[Ir]; simp[WV]
theorem zY {m:Sm}{u:Nat}(h:Wm m u):Yq m.P<=512:=Nat.le_trans h.len h.mo
theorem zX {m:Sm}{u:Nat}(h:Wm m u):WV m.P<=40000000:=by
 have h1:=ay m.P 60000 fun p hp=>by
  obtain⟨i,hi,rfl⟩:=List.mem_iff_getElem.1 hp;have:=h.raw i hi;rwa [getD_lt _ _ _ hi] at this
 have h2:=h.pl;have:=Nat.mul_le_mul_right 60000 h2;omega
structure AdS (B g g3 g4:Nat)(a0:Option Addr)(T0:List Sn)(w:World)(e:En)(d:Ad)(a:Option Addr)(c:Nat)(T:List Sn)(mo fr ln bt:Int)(V:World):Prop where
 gm:Gm B g a0 T0 w a c T mo fr ln bt V
 b3:Bx V g3 (ZO e d) 52
 b4:Bx V g4 #[Z9 0,Z9 0] 104
 en:Vh V e d
 n3:¬ Sp g a T g3
 n4:¬ Sp g a T g4
 ne:∀ k,EB e d k->¬ Sp g a T k
section
variable {B g g3 g4 : Nat} {a0 : Option Addr} {T0 : List Sn} {w : World} {e : En} {d : Ad} {a a1 : Option Addr} {c c1 : Nat} {T T1 : List Sn} {mo fr ln bt dY Pm rU rQ : Int} {V V1 : World}
theorem AdS.step (h:AdS B g g3 g4 a0 T0 w e d a c T mo fr ln bt V)(k:Gm B g a T V a1 c1 T1 dY Pm rU rQ V1):AdS B g g3 g4 a0 T0 w e d a1 c1 T1 dY Pm rU rQ V1:=
 have key:∀ q,q<V.heap.size->¬ Sp g a T q->¬ Sp g a1 T1 q:=fun q hq hn h2=>(k.sub q h2).elim hn (by omega)
 ⟨h.gm.trans k,h.b3.U7 k.but h.n3,h.b4.U7 k.but h.n4,h.en.U7 k.but h.ne,key _ h.b3.lt h.n3,key _ h.b4.lt h.n4,fun q hq=>key q (h.en.lt q hq) (h.ne q hq)⟩
theorem AdS.below (h:AdS B g g3 g4 a0 T0 w e d a c T mo fr ln bt V)(hw:B<=w.heap.size)(hb:Below V.heap.size V V1):AdS B g g3 g4 a0 T0 w e d a c T mo fr ln bt V1:=h.step (Gm.below h.gm.mem hb (h.gm.but.1.size |> Nat.le_trans hw))
end
theorem JA (e e2:En)(d d2:Ad)(f:Bool)(us nx:Int):(Qp ⟨e,d,f,us,nx⟩).take 0++Yc e2 d2++(Qp ⟨e,d,f,us,nx⟩).drop (0+(Yc e2 d2).length)=Qp ⟨e2,d2,f,us,nx⟩:=by kernel_rfl
theorem Jz (e:En)(d:Ad)(f b:Bool)(us nx:Int):(Qp ⟨e,d,f,us,nx⟩).take 41++[.bool b]++(Qp ⟨e,d,f,us,nx⟩).drop (41 + [Value.bool b].length)=Qp ⟨e,d,b,us,nx⟩:=by kernel_rfl
theorem KJ {w:World}{g:Nat}{mo fr ln bt:Int}{a:Option Addr}{n c:Nat}{e:En}{d:Ad}(hX:Bx w g (hdp mo fr ln bt a n c) 147)(hl:ln=mo):Calls Tryz.prog 59 #[Z7 g 0,.agg (ZO e d)] w fun r w'=>r=.returned (.tuple #[.agg #[Z9 0,Z9 0],ZY])/\Below w.heap.size w w':=by
 go_enter Tryz.func59,Tryz.ntmps59;go_upto_region 1 with fail;change Code.wp _ _ _ _ ((w.alloc (.cells (ZO e d) 52)).alloc (.cells #[Z9 0,Z9 0] 104));have hb0:Below w.heap.size w ((w.alloc (.cells (ZO e d) 52)).alloc (.cells #[Z9 0,Z9 0] 104)):=((Below.refl _ w).alloc (Nat.le_refl _) _).alloc (by simp) _;have Zr:Bx ((w.alloc (.cells (ZO e d) 52)).alloc (.cells #[Z9 0,Z9 0] 104)) w.heap.size (ZO e d) 52:=Bx.below (heap_alloc_last w _) (by simp) ((Below.refl _ _).alloc (Nat.le_refl _) _);have Xu:Bx ((w.alloc (.cells (ZO e d) 52)).alloc (.cells #[Z9 0,Z9 0] 104)) (w.heap.size+1) #[Z9 0,Z9 0] 104:=by
  have:=heap_alloc_last (w.alloc (.cells (ZO e d) 52)) (.cells #[Z9 0,Z9 0] 104);rwa [show(w.alloc (.cells (ZO e d) 52)).heap.size=w.heap.size+1 by simp] at this
 generalize (w.alloc (.cells (ZO e d) 52)).alloc (.cells #[Z9 0,Z9 0] 104)=W at *
 obtain⟨g3,hg3⟩:=ZR w.heap.size;obtain⟨g4,hg4⟩:=ZR (g3+1);rw[show w.heap.size+1=g4 by omega] at Xu;have HG:Hid (w.heap.size<=g3/\w.heap.size<=g4):=Z8 ⟨by omega,by omega⟩;rw[hg3] at Zr;simp only[hg3];simp only[hg4];have Qm:=hX.below hX.lt hb0;have HB:=Z8 hb0;clear hb0 hg3 hg4 hX Zr;go_upto_region 1 with fail;refine ZT (C:=fun U=>Below W.heap.size W U) (by kernel_rfl) (by kernel_rfl) ((Below.refl _ W).drew) ?_;refine gy (Z7 g 0)<|gy ZY<|gy ZY<|gy (Z7 g 0)<|gy (Z7 g 0)<|gy (Z7 g 3) <|
   Zx rfl ⟨g,3,none⟩ (Z9 ln) (fun U hU=>(Qm.below Qm.lt hU).ZM 3)<|gy (Z7 g 0)<|gy (Z7 g 0)<|gy (Z7 g 0) <|
   Zx rfl ⟨g,0,none⟩ (Z9 mo) (fun U hU=>(Qm.below Qm.lt hU).ZM 0)<|Ze ZX (fun U hU=>XY rfl (ln) (mo) (decide_eq_true (hl)) (by kernel_rfl) (by kernel_rfl) U)<|gy ZX ?_
 simp only[pu];apply wpQuiet_nil;intro V hV;have Ho:=Xu.below Xu.lt hV;obtain⟨V2,hst,hY,hbt⟩:=st_all (cs':=#[Z9 0,Z9 0]) (ty:=104) Ho rfl (by simp[Value.oneCell']) (by kernel_rfl);have HE:=Z8 ((HB.out.trans (hV.mono HB.out.size)).trans (hbt.1.mono HG.out.2));clear hV hbt Xu Ho Qm;go_upto_region 2 with fail;refine wl<|ZQ (.agg #[Z9 0,Z9 0])<|Yb rfl (hst)<|ZQ ZY<|wn ?_;simp only[pu];go_wp2_with fail;exact bodyPost_ret (Yh rfl (by kernel_rfl) (Uj (x:=(0,0)) (ZU (cs:=hnl (0,0)) hY)) (by kernel_rfl)) rfl ⟨rfl,HE.out⟩
theorem QB {w:World}{B g:Nat}{mo fr ln bt:Int}{a:Option Addr}{c:Nat}{T:List Sn}{e:En}{d:Ad}{m:Sm}{u:Nat}(h:Mp w g a c T mo fr ln bt)(hl:Lk m T fr)(hm:Wm m u)(hc:Yq m.P<m.mo)(hne:ln≠mo)(hln:0<=ln/\ln<=512)(hbt:0<=bt/\bt<=40000000)(he:Vh w e d)(hE:II e)(ho:∀ k,EB e d k->¬ Sp g a T k)(hB:∀ k,Sp g a T k->B<=k)(hw:B<=w.heap.size):Calls Tryz.prog 59 #[Z7 g 0,.agg (ZO e d)] w fun r w'=>∃ (T1:List Sn) (Pm:Int) (a1:Option Addr) (c1:Nat),r=.returned (.tuple #[.agg #[Z9 (XA m).1,Z9 (XA m).2],ZX])/\Lk (UY m e) T1 Pm/\Gm B g a T w a1 c1 T1 mo Pm (ln+1) (bt+e.raw.length) w':=by
 go_enter Tryz.func59,Tryz.ntmps59;go_upto_region 1 with fail;change Code.wp _ _ _ _ ((w.alloc (.cells (ZO e d) 52)).alloc (.cells #[Z9 0,Z9 0] 104));have hb0:Below w.heap.size w ((w.alloc (.cells (ZO e d) 52)).alloc (.cells #[Z9 0,Z9 0] 104)):=((Below.refl _ w).alloc (Nat.le_refl _) _).alloc (by simp) _;have Zr:Bx ((w.alloc (.cells (ZO e d) 52)).alloc (.cells #[Z9 0,Z9 0] 104)) w.heap.size (ZO e d) 52:=Bx.below (heap_alloc_last w _) (by simp) ((Below.refl _ _).alloc (Nat.le_refl _) _);have Xu:Bx ((w.alloc (.cells (ZO e d) 52)).alloc (.cells #[Z9 0,Z9 0] 104)) (w.heap.size+1) #[Z9 0,Z9 0] 104:=by
  have:=heap_alloc_last (w.alloc (.cells (ZO e d) 52)) (.cells #[Z9 0,Z9 0] 104);rwa [show(w.alloc (.cells (ZO e d) 52)).heap.size=w.heap.size+1 by simp] at this
 generalize (w.alloc (.cells (ZO e d) 52)).alloc (.cells #[Z9 0,Z9 0] 104)=W at *
 obtain⟨g3,hg3⟩:=ZR w.heap.size;obtain⟨g4,hg4⟩:=ZR (g3+1);rw[show w.heap.size+1=g4 by omega] at Xu;have HG:Hid (w.heap.size<=g3/\w.heap.size<=g4):=Z8 ⟨by omega,by omega⟩;rw[hg3] at Zr;simp only[hg3];simp only[hg4];have hg0:=h.bx.lt;have hn3:¬ Sp g a T g3:=fun q=>by have:=h.inn _ q; have:=HG.out; omega
 have hn4:¬ Sp g a T g4:=fun q=>by have:=h.inn _ q; have:=HG.out; omega
 have hA0:AdS B g g3 g4 a T w e d a c T mo fr ln bt W:=⟨Gm.below h hb0 hw,Zr,Xu,he.below hb0,hn3,hn4,ho⟩;have Qm:=hA0.gm.mem.bx;have HW:=Z8 hw;have nT:=Z8 hB;have TF:=Z8 hl;have HWM:=Z8 hm;have HCC:=Z8 hc;have Nb:=Z8 hE;have JL:Hid (0<=ln/\ln<=512/\0<=bt/\bt<=40000000/\e.raw.length<=60000):=Z8 ⟨hln.1,hln.2,hbt.1,hbt.2,hE.1⟩;have HA0:=Z8 hA0;obtain⟨n,hn⟩:=ZR T.length;rw[hn] at Qm;clear hb0 hg3 hg4 Zr Xu h hl hm hc he hE ho hB hw hn3 hn4 hA0 hn hln hbt hg0;go_upto_region 1 with fail;refine ZT (C:=fun U=>Below W.heap.size W U) (by kernel_rfl) (by kernel_rfl) ((Below.refl _ W).drew) ?_;refine gy (Z7 g 0)<|gy ZY<|gy ZY<|gy (Z7 g 0)<|gy (Z7 g 0)<|gy (Z7 g 3) <|
   Zx rfl ⟨g,3,none⟩ (Z9 ln) (fun U hU=>(Qm.below Qm.lt hU).ZM 3)<|gy (Z7 g 0)<|gy (Z7 g 0)<|gy (Z7 g 0) <|
   Zx rfl ⟨g,0,none⟩ (Z9 mo) (fun U hU=>(Qm.below Qm.lt hU).ZM 0)<|Ze ZY (fun U hU=>XY rfl (ln) (mo) (decide_eq_false (hne)) (by kernel_rfl) (by kernel_rfl) U)<|gy ZY ?_
 simp only[pu];apply wpQuiet_nil;intro V hV;have hA1:=HA0.out.below HW.out hV;have CT:=ac9 hA1.gm.mem TF.out HWM.out HCC.out nT.out (Nat.le_trans HW.out hA1.gm.but.1.size) e;have HA1:=Z8 hA1;clear Qm hV HA0 hA1 hne;go_upto_region 3 with fail;refine wl<|ZQ (Z7 g 0) <|
  XQ (fun v w'=>∃ (i:Nat) (T1:List Sn) (Pm:Int) (a1:Option Addr) (c1:Nat),v=Z9 i/\TkO m e T1 Pm i/\Gm B g a T V a1 c1 T1 mo Pm ln bt w') (CT.mono fun r w' q=>by obtain⟨i,T1,Pm,a1,c1,q1,q2⟩:=q; exact⟨_,q1,i,T1,Pm,a1,c1,rfl,q2⟩) (fun vv V2 hq=>?_)
 obtain⟨i,T1,Pm,a1,c1,rfl,hTk,hGm⟩:=hq;refine ZQ (Z9 i)<|wn ?_;simp only[pu];have hA2:=HA1.out.step hGm;have hil:=hTk.il;obtain⟨b,hab,hrg⟩:=hA2.gm.mem.rg hil;have HTK:=Z8 hTk;obtain⟨s9,hs9⟩:=ZR (T1.getD i Xx);have LK:=Z8 hs9;rw[hs9] at hrg;obtain⟨n1,hn1⟩:=ZR T1.length;have wM:=Z8 hn1;have hX2:=hA2.gm.mem.bx;rw[hn1,hab] at hX2;have hin:i<n1:=by omega
 have HA2:=Z8 hA2;have HAB:=Z8 hab;clear hGm CT HA1 hTk hs9 hn1 hA2 hil hab;go_upto_region 4 with fail;refine wl<|YX (Z7 g 0) (Z7 g 0) (Z7 g 1)<|ZC rfl ⟨g,1,none⟩ (.slice (some ⟨b,0,none⟩) n1 c1) (hX2.ZM 1)<|ZQ (Z9 i) <|
  Za (Z7 b (0+i*44)) (Po b 0 n1 c1 i hin _ _ _ rfl (by kernel_rfl) (by kernel_rfl))<|ZQ (Z7 b (0+i*44))<|wn ?_
 simp only[pu];have CA:=Ag e d V2 HA2.out.en Nb.out;have hB2:=Gm.base HA2.out.gm nT.out HW.out;have hw2:=Nat.le_trans HW.out HA2.out.gm.but.1.size;go_upto_region 5 with fail;refine wl<|ZB (Z7 b (0+i*44)) (Z7 b (0+i*44))<|ZC rfl ⟨g3,0,none⟩ (.agg (ZO e d)) (ZE (ZU HA2.out.b3)) <|
  XQ (fun v w'=>∃ d',v=.agg (ZO e d')/\Ws w' V2.heap.size e d'/\Below V2.heap.size V2 w') (CA.mono fun r w' q=>by obtain⟨d',q1,q2⟩:=q; exact⟨_,q1,d',rfl,q2⟩) (fun vv V3 hq=>?_)
 obtain⟨d2,rfl,hEW,hb3⟩:=hq;have Gx:=HA2.out.gm.mem.below hb3;have hil:i<T1.length:=HTK.out.il;have hst3:=rO Gx HAB.out hil (o:=0) (ty:=52) (ZO e d2) (by show 0+41<=44; decide) (by kernel_rfl) (YW e d2) (q:=0+i*44) (by omega);have hG3:=Gm.el HA2.out.gm.mem hB2 hw2 hb3 HAB.out hil (o:=0) (y:=⟨e,d2,s9.full,s9.us,s9.nx⟩) (vs:=Yc e d2) (by show 0+41<=44; decide) (by rw[LK.out]; exact JA _ _ _ _ _ _ _) hEW.i (fun k hk=>.inr (hEW.ge k hk));have hA3:=HA2.out.step hG3;have ad1:i<(T1.set i ⟨e,d2,s9.full,s9.us,s9.nx⟩).length:=by rw[List.length_set]; exact hil
 have Gq:=ad2 hA3.gm.mem HAB.out ad1 (o:=41) (ty:=4) ZX (by decide) (by kernel_rfl) rfl (q:=0+i*44+41) (by omega);have hG4:=Gm.el hA3.gm.mem (Gm.base hA3.gm nT.out HW.out) (Nat.le_trans HW.out hA3.gm.but.1.size) (Below.refl _ _) HAB.out ad1 (o:=41) (y:=⟨e,d2,true,s9.us,s9.nx⟩) (vs:=[ZX]) (by show 41+1<=44; decide) (by rw[YK _ _ _ _ hil]; exact Jz _ _ _ _ _ _) (by have:=hA3.gm.mem.en i ad1; rw[YK _ _ _ _ hil] at this; exact this) (fun k hk=>.inl (by rw[YK _ _ _ _ hil]; exact hk));rw[List.set_set] at hG4;have hA4:=hA3.step hG4;change (Instr.storeAt 52 _ _).run _ _=.ok () (V3.setCells b (i*44+0) (Yc e d2)) at hst3;generalize V3.setCells b (i*44+0) (Yc e d2)=V4 at *
 generalize V4.setCells b (i*44+41) [ZX]=V5 at *
 clear hG3 hG4 hA3 hEW hb3 Gx CA;refine ZB (Z7 b (0+i*44)) (Z7 b (0+i*44))<|Yb rfl (hst3)<|ZB (Z7 b (0+i*44)) (Z7 b (0+i*44+41))<|Yb rfl (Gq)<|wn ?_;simp only[pu];clear hst3 Gq hrg hX2;have HA4:=Z8 hA4;have Zc:=hA4.gm.mem.bx;have hn5:(T1.set i ⟨e,d2,true,s9.us,s9.nx⟩).length=n1:=by rw[List.length_set]; exact wM.out
 rw[hn5,HAB.out] at Zc;have HN5:=Z8 hn5;obtain⟨V6,vK,hG6⟩:=Gm.num hA4.gm.mem (Gm.base hA4.gm nT.out HW.out) 3 (ln+1) Pm (ln+1) bt (by decide) rfl;have hA6:=hA4.step hG6;have HA6:=Z8 hA6;have Vp:=hA6.gm.mem.bx;rw[hn5,HAB.out] at Vp;clear hG6 HA4 hA4 hn5 HA2 hB2 hw2;go_upto_region 6 with fail;refine wl<|YX (Z7 g 0) (Z7 g 0) (Z7 g 3)<|ZC rfl ⟨g,3,none⟩ (Z9 ln) (Zc.ZM 3) <|
  Yd (Z9 (ln+1)) (W9 rfl ln 1 (by have:=JL.out; omega))<|ZB (Z7 g 0) (Z7 g 3)<|Yb rfl (vK)<|wn ?_
 simp only[pu];clear vK Zc;have Zr:=hA6.b3;clear hA6;go_upto_region 7 with fail;refine ZP (C:=fun U=>Below V6.heap.size V6 U) 10 (by kernel_rfl) (by kernel_rfl) ((Below.refl _ V6).drew) ?_;simp only[List.take_succ_cons,List.take_zero,List.drop_succ_cons,List.drop_zero];refine gy (Z7 g 0)<|gy (Z7 g 0)<|gy (Z7 g 4)<|Zx rfl ⟨g,4,none⟩ (Z9 bt) (fun U hU=>(Vp.below Vp.lt hU).ZM 4)<|gy (Z7 g3 32) <|
   Zx rfl ⟨g3,32,none⟩ (.slice d.ra e.raw.length d.rc) (fun U hU=>ZN (ZU (Zr.below Zr.lt hU)) (j:=32) rfl (by kernel_rfl))<|gy (Z9 e.raw.length) <|
   Ze (Z9 (bt+e.raw.length)) (fun U hU=>W9 rfl bt e.raw.length (by have:=JL.out; omega) (by kernel_rfl) (by kernel_rfl) U)<|gy (Z7 g 0)<|gy (Z7 g 4) ?_
 simp only[pu];apply wpQuiet_nil;intro V7 hV7;have hA7:=HA6.out.below HW.out hV7;obtain⟨V8,Qd,hG8⟩:=Gm.num hA7.gm.mem (Gm.base hA7.gm nT.out HW.out) 4 (bt+e.raw.length) Pm (ln+1) (bt+e.raw.length) (by decide) rfl;have dX:=hA7.step hG8;refine Yb rfl Qd<|wn ?_;have av4:i<(T1.set i ⟨e,d2,true,s9.us,s9.nx⟩).length:=by rw[HN5.out]; exact hin
 obtain⟨b8,ad3,ao1⟩:=dX.gm.mem.rg av4;rw[HAB.out] at ad3;simp only[Option.some.injEq,Addr.mk.injEq,and_true] at ad3;subst ad3;rw[YK _ _ _ _ HTK.out.il] at ao1;obtain⟨V9,YM,lY,U8⟩:=st_all (cs':=#[Z9 i,Z9 s9.us]) (ty:=104) dX.b4 rfl (by simp[Value.oneCell']) (by kernel_rfl);have HRA:Hid (XA m=((i:Int),s9.us)):=Z8 (by rw[<- LK.out]; exact HTK.out.hd);have HLQ:Hid (Lk (UY m e) (T1.set i ⟨e,d2,true,s9.us,s9.nx⟩) Pm):=Z8 (by have:=HTK.out.lk d2; rw[LK.out] at this; exact this);have HE:Hid (Gm B g a T w a1 c1 (T1.set i ⟨e,d2,true,s9.us,s9.nx⟩) mo Pm (ln+1) (bt+e.raw.length) V9):=Z8 ⟨dX.gm.mem.same fun k hk=>U8.2 k (dX.gm.mem.inn k hk) fun e2=>dX.n4 (e2 ▸ hk),dX.gm.sub,ZL.but dX.gm.but U8 HG.out.2 (Nat.le_trans HW.out HG.out.2)⟩;clear hA7 hG8 dX Qd hV7 HA6 Vp Zr U8;go_upto_region 8 with fail;refine wl<|Qc (Z9 i) (Z7 b (0+i*44)) (Z7 b (0+i*44)) (Z7 b (0+i*44+42))<|ZC rfl ⟨b,0+i*44+42,none⟩ (Z9 s9.us) (ZN ao1 (j:=42) rfl (by kernel_rfl)) <|
  ZQ (.agg #[Z9 i,Z9 s9.us])<|Yb rfl (YM)<|ZQ ZX<|wn ?_
 simp only[pu];go_wp2_with fail;exact bodyPost_ret (Yh rfl (by kernel_rfl) (Uj (x:=((i:Int),s9.us)) (ZU (cs:=hnl ((i:Int),s9.us)) lY)) (by kernel_rfl)) rfl ⟨_,_,_,_,by rw[HRA.out],HLQ.out,HE.out⟩
theorem FM {w:World}{B g:Nat}{S:Nat->Prop}{m:Sm}{u:Nat}{e:En}{d:Ad}(h:VT w g S m)(hm:Wm m u)(he:Vh w e d)(hE:II e)(ho:∀ k,EB e d k->¬ S k)(hB:∀ k,S k->B<=k)(hw:B<=w.heap.size):Calls Tryz.prog 59 #[Z7 g 0,.agg (ZO e d)] w fun r w'=>r=.returned (.tuple #[.agg #[Z9 (XA m).1,Z9 (XA m).2],.bool (OQ m)])/\l7 g B S (UY m e) w w':=by
 obtain⟨a,c,T,fr,hM,hl,rfl⟩:=h;by_cases hc:Yq m.P<m.mo
 ·have hO:OQ m=true:=decide_eq_true hc;have h1:=zY hm;have h2:=zX hm;refine(QB hM hl hm hc (by omega) (by omega) (by omega) he hE ho hB hw).mono fun r w' q=>?_;obtain⟨T1,Pm,a1,c1,q1,q2,q3⟩:=q;rw[hO];have h3:=Ip hm e;rw[hO,if_pos rfl] at h3;have h4:=Iu hm e hO;refine⟨q1,Sp g a1 T1,⟨a1,c1,T1,Pm,?_,q2,rfl⟩,q3.sub,q3.but⟩;rw[h3.2,h3.1,h4];exact q3.mem
 ·obtain⟨e1,e2,e3⟩:=Rh e (show m.mo<=Yq m.P by omega);have h3:=hm.len;rw[e1,e2,e3];exact(KJ hM.bx (by omega)).mono fun r w' q=>⟨q.1,_,⟨a,c,T,fr,hM.below q.2,hl,rfl⟩,fun k hk=>.inl hk,ZL.of_below q.2 hw⟩
structure RmS (B g g3:Nat)(a0:Option Addr)(T0:List Sn)(w:World)(q:Int×Int)(a:Option Addr)(c:Nat)(T:List Sn)(mo fr ln bt:Int)(V:World):Prop where
 gm:Gm B g a0 T0 w a c T mo fr ln bt V
 b3:Bx V g3 #[Z9 q.1,Z9 q.2] 104
 n3:¬ Sp g a T g3
section
variable {B g g3 : Nat} {a0 : Option Addr} {T0 : List Sn} {w : World} {q : Int × Int} {a a1 : Option Addr} {c c1 : Nat} {T T1 : List Sn} {mo fr ln bt dY Pm rU rQ : Int} {V V1 : World}
theorem RmS.step (h:RmS B g g3 a0 T0 w q a c T mo fr ln bt V)(k:Gm B g a T V a1 c1 T1 dY Pm rU rQ V1):RmS B g g3 a0 T0 w q a1 c1 T1 dY Pm rU rQ V1:=
 ⟨h.gm.trans k,h.b3.U7 k.but h.n3,fun h2=>(k.sub _ h2).elim h.n3 (by have:=h.b3.lt; omega)⟩
theorem RmS.below (h:RmS B g g3 a0 T0 w q a c T mo fr ln bt V)(hw:B<=w.heap.size)(hb:Below V.heap.size V V1):RmS B g g3 a0 T0 w q a c T mo fr ln bt V1:=h.step (Gm.below h.gm.mem hb (h.gm.but.1.size |> Nat.le_trans hw))
end
theorem JB (x y:Sn):(Qp x).take 0++Qp y++(Qp x).drop (0+(Qp y).length)=Qp y:=by kernel_rfl
theorem jO (x:Sn):(Ce x).all (·.oneCell')=true:=by kernel_rfl
theorem Iq {m:Sm}{q:Int×Int}(hv:X9 m q=true){i:Nat}(hi:q.1=i):WV (TU m q).P+(m.P.getD i X5).e.raw.length=WV m.P:=by
 obtain⟨i2,hi2,hil,hf,hu⟩:=Wj hv;obtain rfl:i2=i:=by omega
 rw[WQ hv hi];have hc:=OM m.P i2 ⟨false,(m.P.getD i2 X5).us,Zp⟩ hil;rw[hf] at hc;simpa only[pb,Bool.false_eq_true,if_false,if_true,Nat.add_zero] using hc
theorem jM {w:World}{g:Nat}{mo fr ln bt:Int}{a:Option Addr}{c:Nat}{T:List Sn}{m:Sm}(q:Int×Int)(h:Mp w g a c T mo fr ln bt)(hl:Lk m T fr)(hv:X9 m q=false):Calls Tryz.prog 65 #[Z7 g 0,.agg #[Z9 q.1,Z9 q.2]] w fun r w'=>r=.returned ZY/\Below w.heap.size w w':=by
 go_enter Tryz.func65,Tryz.ntmps65;go_upto_region 1 with fail;change Code.wp _ _ _ _ (w.alloc (.cells #[Z9 q.1,Z9 q.2] 104));have hb0:Below w.heap.size w (w.alloc (.cells #[Z9 q.1,Z9 q.2] 104)):=(Below.refl _ w).alloc (Nat.le_refl _) _;have Zr:Bx (w.alloc (.cells #[Z9 q.1,Z9 q.2] 104)) w.heap.size #[Z9 q.1,Z9 q.2] 104:=heap_alloc_last w _;generalize w.alloc (.cells #[Z9 q.1,Z9 q.2] 104)=W at *
 obtain⟨g3,hg3⟩:=ZR w.heap.size;have HG:Hid (w.heap.size<=g3):=Z8 (by omega);rw[hg3] at Zr;simp only[hg3];have CH:=Aa (h.below hb0) hl q;rw[hv] at CH;have HB:=Z8 hb0;clear hb0 h hl hv hg3;refine wl<|ZQ (Z7 g 0)<|ZC rfl ⟨g3,0,none⟩ (.agg #[Z9 q.1,Z9 q.2]) (Uj (x:=q) (ZU (cs:=hnl q) Zr))<|YD ZY (fun w'=>Below W.heap.size W w') (CH) (fun V hV=>?_);refine ZQ ZX<|wn ?_;simp only[pu];have HE:=HB.out.trans (hV.mono HB.out.size);go_wp2_with fail;go_ret;exact⟨rfl,HE⟩
theorem rP {w:World}{B g:Nat}{mo fr ln bt:Int}{a:Option Addr}{c:Nat}{T:List Sn}{m:Sm}(q:Int×Int)(h:Mp w g a c T mo fr ln bt)(hl:Lk m T fr)(hv:X9 m q=true){i:Nat}(hi:q.1=i)(hil:i<T.length)(hln:0<=ln/\ln<=512)(hbt:0<=bt/\bt<=40000000)(hraw:(T.getD i Xx).e.raw.length<=60000)(hus:0<=(T.getD i Xx).us/\(T.getD i Xx).us<=1000000000)(hB:∀ k,Sp g a T k->B<=k)(hw:B<=w.heap.size):Calls Tryz.prog 65 #[Z7 g 0,.agg #[Z9 q.1,Z9 q.2]] w fun r w'=>r=.returned ZX/\Gm B g a T w a c (T.set i ⟨Zp,YE,false,(T.getD i Xx).us+1,fr⟩) mo i (ln-1) (bt-(T.getD i Xx).e.raw.length) w':=by
 have HI:=Z8 hi;obtain⟨s9,hs9⟩:=ZR (T.getD i Xx);have LK:=Z8 hs9;rw[hs9] at hraw hus ⊢;clear hi hs9;go_enter Tryz.func65,Tryz.ntmps65;go_upto_region 1 with fail;change Code.wp _ _ _ _ (w.alloc (.cells #[Z9 q.1,Z9 q.2] 104));have hb0:Below w.heap.size w (w.alloc (.cells #[Z9 q.1,Z9 q.2] 104)):=(Below.refl _ w).alloc (Nat.le_refl _) _;have Zr:Bx (w.alloc (.cells #[Z9 q.1,Z9 q.2] 104)) w.heap.size #[Z9 q.1,Z9 q.2] 104:=heap_alloc_last w _;generalize w.alloc (.cells #[Z9 q.1,Z9 q.2] 104)=W at *
 obtain⟨g3,hg3⟩:=ZR w.heap.size;have HG:Hid (w.heap.size<=g3):=Z8 (by omega);rw[hg3] at Zr;simp only[hg3];have CH:=Aa (h.below hb0) hl q;rw[hv] at CH;have hn3:¬ Sp g a T g3:=fun q=>by have:=h.inn _ q; have:=HG.out; omega
 have hR0:RmS B g g3 a T w q a c T mo fr ln bt W:=⟨Gm.below h hb0 hw,Zr,hn3⟩;have HW:=Z8 hw;have nT:=Z8 hB;have JL:Hid (0<=ln/\ln<=512/\0<=bt/\bt<=40000000/\s9.e.raw.length<=60000/\0<=s9.us/\s9.us<=1000000000):=Z8 ⟨hln.1,hln.2,hbt.1,hbt.2,hraw,hus.1,hus.2⟩;obtain⟨b,hab,hrg⟩:=h.rg hil;rw[LK.out] at hrg;have hrg:=ZF hrg hb0;obtain⟨n,hn⟩:=ZR T.length;have HN:=Z8 hn;have hX1:=hR0.gm.mem.bx;rw[hn,hab] at hX1;have HAB:=Z8 hab;have hin:i<n:=by omega
 have nR:=Z8 hil;have HR0:=Z8 hR0;clear hb0 h hl hv hg3 hn3 hR0 hraw hus hw hB hln hbt hab hn hil;refine wl<|ZQ (Z7 g 0)<|ZC rfl ⟨g3,0,none⟩ (.agg #[Z9 q.1,Z9 q.2]) (Uj (x:=q) (ZU (cs:=hnl q) Zr))<|YD ZX (fun w'=>Below W.heap.size W w') (CH) (fun V hV=>?_);refine ZQ ZY<|wn ?_;simp only[pu];have hR1:=HR0.out.below HW.out hV;have Zr:=hR1.b3;have hX1:=hX1.below hX1.lt hV;have hrg:=ZF hrg hV;have HR1:=Z8 hR1;clear hR1 HR0 hV CH;have QU:Bx V g3 #[Z9 i,Z9 q.2] 104:=by rw[<- HI.out]; exact Zr
 clear Zr;go_upto_region 3 with fail;refine ZT (C:=fun U=>Below V.heap.size V U) (by kernel_rfl) (by kernel_rfl) ((Below.refl _ V).drew) ?_;refine gy (Z7 g 0)<|gy (Z7 g 0)<|gy (Z7 g 1)<|Zx rfl ⟨g,1,none⟩ (.slice (some ⟨b,0,none⟩) n c) (fun U hU=>(hX1.below hX1.lt hU).ZM 1)<|gy (Z7 g3 0) <|
   Zx rfl ⟨g3,0,none⟩ (Z9 i) (fun U hU=>(QU.below QU.lt hU).ZM 0)<|Ze (Z7 b (0+i*44)) (fun U hU=>Po b 0 n c i hin U _ _ rfl (by kernel_rfl) (by kernel_rfl))<|gy (Z7 b (0+i*44)) ?_
 simp only[pu];apply wpQuiet_nil;intro V2 hV2;have hR2:=HR1.out.below HW.out hV2;have hX2:=hX1.below hX1.lt hV2;obtain⟨V3,hst3,hG3⟩:=Gm.num hR2.gm.mem (Gm.base hR2.gm nT.out HW.out) 3 (ln-1) fr (ln-1) bt (by decide) rfl;have hR3:=hR2.step hG3;have Zr:=hR3.gm.mem.bx;rw[HN.out,HAB.out] at Zr;obtain⟨b3,ac6,hrg3⟩:=hR3.gm.mem.rg nR.out;rw[HAB.out] at ac6;simp only[Option.some.injEq,Addr.mk.injEq,and_true] at ac6;subst ac6;rw[LK.out] at hrg3;have HR3:=Z8 hR3;clear hR2 hG3 hR3 hV2 HR1 hX1 hrg QU;go_upto_region 4 with fail;refine wl<|YX (Z7 g 0) (Z7 g 0) (Z7 g 3)<|ZC rfl ⟨g,3,none⟩ (Z9 ln) (hX2.ZM 3) <|
  Yd (Z9 (ln-1)) (Tv rfl ln 1 (by have:=JL.out; omega))<|ZB (Z7 g 0) (Z7 g 3)<|Yb rfl (hst3)<|wn ?_
 simp only[pu];clear hst3 hX2;go_upto_region 5 with fail;refine ZP (C:=fun U=>Below V3.heap.size V3 U) 13 (by kernel_rfl) (by kernel_rfl) ((Below.refl _ V3).drew) ?_;simp only[List.take_succ_cons,List.take_zero,List.drop_succ_cons,List.drop_zero];refine gy (Z7 g 0)<|gy (Z7 g 0)<|gy (Z7 g 4)<|Zx rfl ⟨g,4,none⟩ (Z9 bt) (fun U hU=>(Zr.below Zr.lt hU).ZM 4)<|gy (Z7 b (0+i*44)) <|
   gy (Z7 b (0+i*44))<|gy (Z7 b (0+i*44))<|gy (Z7 b (0+i*44+32))<|Zx rfl ⟨b,0+i*44+32,none⟩ (.slice s9.d.ra s9.e.raw.length s9.d.rc) (fun U hU=>ZN (ZF hrg3 hU) (j:=32) rfl (by kernel_rfl)) <|
   gy (Z9 s9.e.raw.length)<|Ze (Z9 (bt-s9.e.raw.length)) (fun U hU=>Tv rfl bt s9.e.raw.length (by have:=JL.out; omega) (by kernel_rfl) (by kernel_rfl) U)<|gy (Z7 g 0)<|gy (Z7 g 4) ?_
 simp only[pu];apply wpQuiet_nil;intro V4 MK;have zZ:=HR3.out.below HW.out MK;obtain⟨V5,hst5,hG5⟩:=Gm.num zZ.gm.mem (Gm.base zZ.gm nT.out HW.out) 4 (bt-s9.e.raw.length) fr (ln-1) (bt-s9.e.raw.length) (by decide) rfl;have yw:=zZ.step hG5;refine Yb rfl hst5<|wn ?_;have Zc:=yw.gm.mem.bx;rw[HN.out,HAB.out] at Zc;obtain⟨b5,ac7,ac8⟩:=yw.gm.mem.rg nR.out;rw[HAB.out] at ac7;simp only[Option.some.injEq,Addr.mk.injEq,and_true] at ac7;subst ac7;rw[LK.out] at ac8;have HR5:=Z8 yw;clear zZ hG5 yw MK HR3 Zr hrg3 hst5;go_upto_region 6 with fail;refine ZP (C:=fun U=>Below V5.heap.size V5 U) 12 (by kernel_rfl) (by kernel_rfl) ((Below.refl _ V5).drew) ?_;simp only[List.take_succ_cons,List.take_zero,List.drop_succ_cons,List.drop_zero];refine gy (Z7 b (0+i*44))<|gy (Z7 b (0+i*44))<|gy (Z7 b (0+i*44))<|gy (Z7 b (0+i*44+42)) <|
   Zx rfl ⟨b,0+i*44+42,none⟩ (Z9 s9.us) (fun U hU=>ZN (ZF ac8 hU) (j:=42) rfl (by kernel_rfl))<|Ze (Z9 (s9.us+1)) (fun U hU=>W9 rfl s9.us 1 (by have:=JL.out; omega) (by kernel_rfl) (by kernel_rfl) U)<|gy (Z7 g 0) <|
   gy (Z7 g 0)<|gy (Z7 g 2)<|Zx rfl ⟨g,2,none⟩ (Z9 fr) (fun U hU=>(Zc.below Zc.lt hU).ZM 2)<|gy (.agg (Ce ⟨Zp,YE,false,s9.us+1,fr⟩))<|gy (Z7 b (0+i*44)) ?_
 simp only[pu];apply wpQuiet_nil;intro V6 TM;have hR6:=HR5.out.below HW.out TM;have PY:=rO hR6.gm.mem HAB.out nR.out (o:=0) (ty:=144) (Ce ⟨Zp,YE,false,s9.us+1,fr⟩) (by show 0+44<=44; decide) (by kernel_rfl) (jO _) (q:=0+i*44) (by omega);have hG7:=Gm.el hR6.gm.mem (Gm.base hR6.gm nT.out HW.out) (Nat.le_trans HW.out hR6.gm.but.1.size) (Below.refl _ _) HAB.out nR.out (o:=0) (y:=⟨Zp,YE,false,s9.us+1,fr⟩) (vs:=Qp ⟨Zp,YE,false,s9.us+1,fr⟩) (by show 0+44<=44; decide) (JB _ _) (Vh.z _) (fun k hk=>(EB.z hk).elim);change (Instr.storeAt 144 _ _).run _ _=.ok () (V6.setCells b (i*44+0) (Qp ⟨Zp,YE,false,s9.us+1,fr⟩)) at PY;have hR7:=hR6.step hG7;generalize V6.setCells b (i*44+0) (Qp ⟨Zp,YE,false,s9.us+1,fr⟩)=V7 at *
 refine Yb rfl PY<|wn ?_;obtain⟨V8,Qd,hG8⟩:=Gm.num hR7.gm.mem (Gm.base hR7.gm nT.out HW.out) 2 i i (ln-1) (bt-s9.e.raw.length) (by decide) rfl;have hR8:=hR7.step hG8;have lX:Bx V7 g3 #[Z9 i,Z9 q.2] 104:=by rw[<- HI.out]; exact hR7.b3
 have HE:=Z8 hR8.gm;clear hR6 hG7 hR7 hG8 hR8 TM HR5 Zc ac8 PY;go_upto_region 7 with fail;refine wl<|ZB (Z7 g 0) (Z7 g3 0)<|ZC rfl ⟨g3,0,none⟩ (Z9 i) (lX.ZM 0)<|ZB (Z7 g 0) (Z7 g 2)<|Yb rfl (Qd)<|wn ?_;simp only[pu];go_wp2_with fail;go_ret;exact⟨rfl,HE.out⟩
theorem FN {w:World}{B g:Nat}{S:Nat->Prop}{m:Sm}{u:Nat}(q:Int×Int)(h:VT w g S m)(hm:Wm m u)(hu:u<=1000000)(hB:∀ k,S k->B<=k)(hw:B<=w.heap.size):Calls Tryz.prog 65 #[Z7 g 0,.agg #[Z9 q.1,Z9 q.2]] w fun r w'=>r=.returned (.bool (X9 m q))/\l7 g B S (TU m q) w w':=by
 obtain⟨a,c,T,fr,hM,hl,rfl⟩:=h;cases hv:X9 m q with
 | false=>
  rw[PL hv];exact(jM q hM hl hv).mono fun r w' z=>⟨z.1,_,⟨a,c,T,fr,hM.below z.2,hl,rfl⟩,fun k hk=>.inl hk,ZL.of_below z.2 hw⟩
 | true=>
  obtain⟨i,hi,hil,hf,hus⟩:=Wj hv;have Om:i<T.length:=by rw[hl.len]; exact hil
  have h1:=zY hm;have h2:=zX hm;have h3:=Io m q;rw[hv,if_pos rfl] at h3;have h4:=Iq hv hi;have h5:=hl.us i Om;rw[hf,if_pos rfl] at h5;have h6:=hm.us i hil;have h7:=hm.up i hil hf;have h8:=hl.e i Om;have h9:=hm.raw i hil;refine(rP q hM hl hv hi Om (by omega) (by omega) (by rw[h8]; exact h9) (by omega) hB hw).mono fun r w' z=>⟨z.1,_,⟨a,c,_,_,?_,hl.rem hm hv hi,rfl⟩,z.2.sub,z.2.but⟩;have h10:=z.2.mem;rw[h8] at h10;rw[h3.2,show((Yq (TU m q).P:Nat):Int)=(Yq m.P:Int)-1 by omega,show((WV (TU m q).P:Nat):Int)=(WV m.P:Int)-((m.P.getD i X5).e.raw.length:Nat) by omega];exact h10
end Go.Proofs.YtnelmomagdcmnaaGreat.Sl
