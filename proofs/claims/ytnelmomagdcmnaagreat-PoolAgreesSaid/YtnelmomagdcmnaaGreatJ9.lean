/-
  Texts joined.
-/
import Derived.Test.YtnelmomagdcmnaaGreatJ8
set_option maxRecDepth 100000
set_option maxHeartbeats 8000000
set_option linter.unusedSimpArgs false
set_option linter.unusedVariables false
namespace Go.Proofs.YtnelmomagdcmnaaGreat
attribute [local irreducible] wpList wpQuiet
open Go.RowKit
theorem Fa (a:ByteArray):a.toList=a.data.toList:=Lib.toList_data a
theorem eqB (a b:ByteArray):(a.toList == b.toList)=decide (a=b):=by
 rw[Fa,Fa];by_cases h:a=b
 ·subst h; simp
 ·rw[decide_eq_false h,beq_eq_false_iff_ne];intro e;exact h (ByteArray.ext (Array.toList_inj.1 e))
theorem yI (a b:ByteArray):(a == b)=decide (a=b):=by rw[beq_toListBytes,eqB]
def Qi (mt mb:Int)(X:List (En×Ad))(x:En×Ad):List (En×Ad):=if YC mt mb (lE X) x.1=0 then X++[x] else X
theorem wG (mt mb:Int)(X:List (En×Ad))(x:En×Ad):lE (Qi mt mb X x)=insL mt mb (lE X) x.1:=by
 unfold Qi insL
 split
 ·unfold lE;rw[List.map_append];rfl
 ·rfl
structure KI (w V7:World)(c:List Int)(a:Option Addr)(n cp g2 g3 g4:Nat)(X:List (En×Ad))(x:En×Ad)(b2 b5 b7 b8 b9 b10:Bool)(x59 x62 x64 x65 x66:Value)(V:World):Prop where
 bel:Below w.heap.size w V
 p2:Bx V g2 (Y0 c a n cp) 31
 p3:Bx V g3 (ZO x.1 x.2) 52
 ch:b10=false->CH V7 x X (X++[x]) [] b2 b5 b8 false b7 x59 x62 x65 undef x64 V
 o5:b5=true->b2=true
 o8:b8=true->b5=true
 o87:b8=true->b7=true
 o9:b9=true->b8=true
 o10:b10=true->b9=true
 bd:b9=true->∃ a2 c2,x65=.slice a2 (X++[x]).length c2/\x66=.agg (Y0 c a2 (X++[x]).length c2)
 st:b10=true->∃ a2 c2,x65=.slice a2 (X++[x]).length c2/\YR V w.heap.size (.slice a2 (X++[x]).length c2) (X++[x])/\Bx V g4 (Y0 c a2 (X++[x]).length c2) 31
section
variable {w V7 V V2 : World} {c : List Int} {a : Option Addr} {n cp g2 g3 g4 : Nat} {X : List (En × Ad)} {x : En × Ad} {b2 b5 b7 b8 b9 b10 : Bool} {x59 x62 x64 x65 x66 v : Value}
theorem KI.start (hb:Below w.heap.size w V7)(h2:Bx V7 g2 (Y0 c a n cp) 31)(h3:Bx V7 g3 (ZO x.1 x.2) 52)(X:List (En×Ad))(x59 x62 x64 x65 x66:Value):KI w V7 c a n cp g2 g3 g4 X x false false false false false false x59 x62 x64 x65 x66 V7.drew:=
 ⟨hb.drew,h2.below h2.lt (Below.refl _ V7).drew,h3.below h3.lt (Below.refl _ V7).drew,fun _=>CH.start V7 x X (X++[x]) [] x59 x62 x65 undef x64,fun h=>by(cases h),fun h=>by(cases h),fun h=>by(cases h),fun h=>by(cases h),fun h=>by(cases h),fun h=>by(cases h),fun h=>by(cases h)⟩
theorem KI.n9 (h:KI w V7 c a n cp g2 g3 g4 X x b2 b5 b7 b8 false b10 x59 x62 x64 x65 x66 V):b10=false:=O7 h.o10 rfl
theorem KI.n8 (h:KI w V7 c a n cp g2 g3 g4 X x b2 b5 b7 false b9 b10 x59 x62 x64 x65 x66 V):b9=false/\b10=false:=by
 obtain rfl:=O7 h.o9 rfl;exact⟨rfl,h.n9⟩
theorem KI.n5 (h:KI w V7 c a n cp g2 g3 g4 X x b2 false b7 b8 b9 b10 x59 x62 x64 x65 x66 V):b8=false/\b9=false/\b10=false:=by
 obtain rfl:=O7 h.o8 rfl;exact⟨rfl,h.n8⟩
theorem KI.n7 (h:KI w V7 c a n cp g2 g3 g4 X x b2 b5 false b8 b9 b10 x59 x62 x64 x65 x66 V):b8=false/\b9=false/\b10=false:=by
 obtain rfl:=O7 h.o87 rfl;exact⟨rfl,h.n8⟩
theorem KI.n2 (h:KI w V7 c a n cp g2 g3 g4 X x false b5 b7 b8 b9 b10 x59 x62 x64 x65 x66 V):b5=false/\b8=false/\b9=false/\b10=false:=by
 obtain rfl:=O7 h.o5 rfl;exact⟨rfl,h.n5⟩
theorem KI.nil (h:KI w V7 c a n cp g2 g3 g4 X x false false b7 false false false x59 x62 x64 x65 x66 V):KI w V7 c a n cp g2 g3 g4 X x true false b7 false false false (.slice (some ⟨V.heap.size,0,none⟩) 0 0) x62 x64 x65 x66 (V.alloc (.cells #[] 52)):=
 have hb:Below V.heap.size V (V.alloc (.cells #[] 52)):=(Below.refl _ V).alloc (Nat.le_refl _) _
 ⟨h.bel.trans (hb.mono h.bel.size),h.p2.below h.p2.lt hb,h.p3.below h.p3.lt hb,fun _=>(h.ch rfl).nil,fun _=>rfl,h.o8,h.o87,h.o9,h.o10,fun q=>by(cases q),fun q=>by(cases q)⟩
theorem KI.app1 (h:KI w V7 c a n cp g2 g3 g4 X x true false b7 false false false x59 x62 x64 x65 x66 V)(h7:w.heap.size<=V7.heap.size)(hX:Cs V a (QE X))(hn:X.length=n)(hl:n<=100000)(l2:g2<V7.heap.size)(l3:g3<V7.heap.size):∃ v V2,(Builtin.append_ #[29,29] 29 #[x59,.slice a n cp]).run Tryz.prog V=.ok v V2/\KI w V7 c a n cp g2 g3 g4 X x true true b7 false false false x59 v x64 x65 x66 V2:=by
 have hc:=h.ch rfl;obtain⟨v,V2,hap,hO2,hb2,hg2,X0⟩:=(hc.r0 rfl rfl).app hc.bel.size a n cp X hX hn (by simp) hl;exact⟨v,V2,hap,h.bel.trans (hb2.mono h7),h.p2.below l2 hb2,h.p3.below l3 hb2,fun _=>hc.one (by rw[List.nil_append] at hO2; exact hO2) hb2 hg2 X0,fun _=>rfl,fun q=>by(cases q),fun q=>by(cases q),h.o9,h.o10,fun q=>by(cases q),fun q=>by(cases q)⟩
theorem KI.key (h:KI w V7 c a n cp g2 g3 g4 X x b2 b5 false false false false x59 x62 x64 x65 x66 V):KI w V7 c a n cp g2 g3 g4 X x b2 b5 true false false false x59 x62 (.slice (some ⟨V.heap.size,0,none⟩) 1 1) x65 x66 (V.alloc (.cells (ZO x.1 x.2) 52)):=
 have hb:Below V.heap.size V (V.alloc (.cells (ZO x.1 x.2) 52)):=(Below.refl _ V).alloc (Nat.le_refl _) _
 ⟨h.bel.trans (hb.mono h.bel.size),h.p2.below h.p2.lt hb,h.p3.below h.p3.lt hb,fun _=>(h.ch rfl).key,h.o5,h.o8,fun q=>by(cases q),h.o9,h.o10,fun q=>by(cases q),fun q=>by(cases q)⟩
theorem KI.app2 (h:KI w V7 c a n cp g2 g3 g4 X x b2 true true false false false x59 x62 x64 x65 x66 V)(h7:w.heap.size<=V7.heap.size)(hl:X.length<=100000)(l2:g2<V7.heap.size)(l3:g3<V7.heap.size):∃ gq v V2,x64=.slice (some ⟨gq,0,none⟩) 1 1/\(Builtin.append_ #[29,29] 29 #[x62,.slice (some ⟨gq,0,none⟩) 1 1]).run Tryz.prog V=.ok v V2/\KI w V7 c a n cp g2 g3 g4 X x b2 true true true false false x59 x62 x64 v x66 V2:=by
 have hc:=h.ch rfl;obtain⟨gq,e,hgx,-⟩:=hc.kx rfl;have hgc:Cs V (some ⟨gq,0,none⟩) (QE [x]):=by
  have:=Cs.block (cs:=Nw x) hgx;unfold QE;simpa using this
 obtain⟨v,V2,hap,hO2,hb2,hg2,X0⟩:=(hc.r1 rfl rfl).app hc.bel.size (some ⟨gq,0,none⟩) 1 1 [x] hgc rfl hl (by omega);exact⟨gq,v,V2,e,hap,h.bel.trans (hb2.mono h7),h.p2.below l2 hb2,h.p3.below l3 hb2,fun _=>hc.two hO2 hb2 hg2 X0,h.o5,fun _=>rfl,fun _=>rfl,fun q=>by(cases q),h.o10,fun q=>by(cases q),fun q=>by(cases q)⟩
theorem KI.build (h:KI w V7 c a n cp g2 g3 g4 X x b2 b5 b7 true false false x59 x62 x64 x65 x66 V):∃ a2 c2,x65=.slice a2 (X++[x]).length c2/\KI w V7 c a n cp g2 g3 g4 X x b2 b5 b7 true true false x59 x62 x64 x65 (.agg (Y0 c a2 (X++[x]).length c2)) V:=by
 obtain⟨a2,c2,e,-,-⟩:=YR.cs ((h.ch rfl).r2 rfl rfl);exact⟨a2,c2,e,h.bel,h.p2,h.p3,h.ch,h.o5,h.o8,h.o87,fun _=>rfl,fun q=>by(cases q),fun _=>⟨a2,c2,e,rfl⟩,fun q=>by(cases q)⟩
theorem KI.store (h:KI w V7 c a n cp g2 g3 g4 X x b2 b5 b7 true true false x59 x62 x64 x65 x66 V){cs:Array Value}(hz:cs.size=13)(h4:Bx V7 g4 cs 31)(h7:w.heap.size<=g4)(n2:g2≠g4)(n3:g3≠g4):∃ a2 c2 V2,x66=.agg (Y0 c a2 (X++[x]).length c2)/\(Instr.storeAt 31 (Z7 g4 0) (.agg (Y0 c a2 (X++[x]).length c2))).run Tryz.prog V=.ok () V2/\KI w V7 c a n cp g2 g3 g4 X x b2 b5 b7 true true true x59 x62 x64 x65 x66 V2:=by
 have hc:=h.ch rfl;obtain⟨a2,c2,e1,e2⟩:=h.bd rfl;have hR:=hc.r2 rfl rfl;have hl4:=h4.lt;obtain⟨V2,hst,hX,hbt⟩:=st_all (cs':=Y0 c a2 (X++[x]).length c2) (ty:=31) (h4.below hl4 hc.bel) (by rw[hz]; rfl) (by kernel_rfl) (by kernel_rfl);refine⟨a2,c2,V2,e2,hst,h.bel.trans (hbt.1.mono h7),h.p2.but hbt n2,h.p3.but hbt n3,fun q=>by(cases q),h.o5,h.o8,h.o87,fun _=>rfl,fun _=>rfl,h.bd,fun _=>⟨a2,c2,e1,?_,hX⟩⟩;have hR2:YR V V7.heap.size (.slice a2 (X++[x]).length c2) (X++[x]):=by rw[<- e1]; exact hR
 exact own_base (YG hR2 hbt fun y hy=>by have:=(hR2.lt y.block (by rw[hy]; rfl)).1; omega) (by omega)
end
theorem wH {w:World}{a:Option Addr}{cp:Nat}{X:List (En×Ad)}(h:Xr w a X)(hcc:X.length<=cp)(hl:X.length<=1000)(hr:Yl (lE X)<=40000000)(c:List Int)(hc:I64 (c.getD 0 0)/\I64 (c.getD 1 0))(e:En)(d:Ad)(hI:Vh w e d)(hE:II e):Calls Tryz.prog 38 #[.agg (Y0 c a X.length cp),.agg (ZO e d)] w (mZ w a X (Qi (c.getD 0 0) (c.getD 1 0) X (e,d)) c (Z9 (YC (c.getD 0 0) (c.getD 1 0) (lE X) e))):=by
 have HOLD:Hid (∀ V q,Below w.heap.size w V->YC (c.getD 0 0) (c.getD 1 0) (lE X) e=q->q≠0->mZ w a X (Qi (c.getD 0 0) (c.getD 1 0) X (e,d)) c (Z9 (YC (c.getD 0 0) (c.getD 1 0) (lE X) e)) (.returned (.tuple #[.agg (Y0 c a X.length cp),Z9 q])) V):=Z8 fun V q hV hq h0=>by
  unfold Qi;rw[hq,if_neg h0];exact⟨a,cp,rfl,h.below hV,hcc,fun k hk=>.inl hk,hV⟩
 have WO:Hid (∀ V a2 c2,Below w.heap.size w V->YC (c.getD 0 0) (c.getD 1 0) (lE X) e=0->YR V w.heap.size (.slice a2 (X++[(e,d)]).length c2) (X++[(e,d)])->mZ w a X (Qi (c.getD 0 0) (c.getD 1 0) X (e,d)) c (Z9 (YC (c.getD 0 0) (c.getD 1 0) (lE X) e)) (.returned (.tuple #[.agg (Y0 c a2 (X++[(e,d)]).length c2),Z9 0])) V):=Z8 fun V a2 c2 hV hq hO=>by
  unfold Qi;rw[hq,if_pos rfl];obtain⟨a3,c3,he,h1,h2,h3,h4⟩:=Jk.new hO (fun x hx=>by
   rcases List.mem_append.1 hx with h1 | h1
   ·exact KC h.en x h1
   ·rw[List.mem_singleton.1 h1]; exact hI) hV
  simp only[Value.slice.injEq,true_and] at he;obtain⟨rfl,rfl⟩:=he;exact⟨a2,c2,rfl,h1,h2,fun k hk=>.inr (h3 k hk),hV⟩
 have CA:=Z8 fun V (hV:Below w.heap.size w V)=>r_at (c:=cp) (h.below hV) (by omega) e.k;have CBY:=Z8 fun V (hV:Below w.heap.size w V)=>AV (c:=cp) (h.below hV) (by omega) hr;have HMR:=Z8 (fun V (hV:Below w.heap.size w V)=>(h.below hV).cs);have QY:Hid (∀ V,Below w.heap.size w V->∀ i,i<X.length->∃ b off,a=some ⟨b,off,none⟩/\V.rangeAt b (off+i*41) (Nw (X.getD i Yr))):=Z8 fun V hV i hi=>by
  obtain⟨b,off,h1,-,h2⟩:=(h.below hV).rg hi;exact⟨b,off,h1,h2⟩
 have Kz:Hid ((∀ i,i<X.length->(lE X).getD i Zp=(X.getD i Yr).1)/\(lE X).length=X.length):=Z8 ⟨RI X,YH X⟩;have uf:Hid (Yl (lE X)<=40000000/\e.raw.length<=60000/\X.length<=1000):=Z8 ⟨hr,hE.1,hl⟩;obtain⟨LL,hLL⟩:=ZR (lE X);obtain⟨PO,Yi⟩:=ZR (mZ w a X (Qi (c.getD 0 0) (c.getD 1 0) X (e,d)) c (Z9 (YC (c.getD 0 0) (c.getD 1 0) (lE X) e)));rw[Yi] at HOLD WO ⊢;rw[hLL] at HOLD WO CA CBY Kz uf;obtain⟨n,hn⟩:=ZR X.length;have HN:=Z8 hn;rw[hn] at HOLD CA CBY QY Kz uf ⊢;have HCI:=Z8 hc;clear h hcc hl hr hI hE hLL Yi hn hc;go_enter Tryz.func38,Tryz.ntmps38;go_upto_region 1 with fail;change Code.wp _ _ _ _ (((w.alloc (.cells (Y0 c a n cp) 31)).alloc (.cells (ZO e d) 52)).alloc (.cells (#[Z9 0,Z9 0,Z9 0,Z9 0,Z9 0,Z9 0,ZY,Z9 0,Z9 0,ZV 0,Z9 0,Z9 0,.slice none 0 0]) 31));have Zd:Below w.heap.size w (w.alloc (.cells (Y0 c a n cp) 31)):=(Below.refl _ w).alloc (Nat.le_refl _) _;have hX2:Bx (w.alloc (.cells (Y0 c a n cp) 31)) w.heap.size (Y0 c a n cp) 31:=heap_alloc_last w _;have Yg:(w.alloc (.cells (Y0 c a n cp) 31)).heap.size=w.heap.size+1:=by simp
 generalize w.alloc (.cells (Y0 c a n cp) 31)=YP at *
 have XE:Below w.heap.size w (YP.alloc (.cells (ZO e d) 52)):=Zd.alloc Zd.size _;have hX2:=hX2.below hX2.lt ((Below.refl _ YP).alloc (Nat.le_refl _) (.cells (ZO e d) 52));have Zr:Bx (YP.alloc (.cells (ZO e d) 52)) YP.heap.size (ZO e d) 52:=heap_alloc_last YP _;have Vg:(YP.alloc (.cells (ZO e d) 52)).heap.size=YP.heap.size+1:=by simp
 generalize YP.alloc (.cells (ZO e d) 52)=JE at *
 have tZ:Below w.heap.size w (JE.alloc (.cells (#[Z9 0,Z9 0,Z9 0,Z9 0,Z9 0,Z9 0,ZY,Z9 0,Z9 0,ZV 0,Z9 0,Z9 0,.slice none 0 0]) 31)):=XE.alloc XE.size _;have hX2:=hX2.below hX2.lt ((Below.refl _ JE).alloc (Nat.le_refl _) (.cells (#[Z9 0,Z9 0,Z9 0,Z9 0,Z9 0,Z9 0,ZY,Z9 0,Z9 0,ZV 0,Z9 0,Z9 0,.slice none 0 0]) 31));have Zr:=Zr.below Zr.lt ((Below.refl _ JE).alloc (Nat.le_refl _) (.cells (#[Z9 0,Z9 0,Z9 0,Z9 0,Z9 0,Z9 0,ZY,Z9 0,Z9 0,ZV 0,Z9 0,Z9 0,.slice none 0 0]) 31));have Xu:Bx (JE.alloc (.cells (#[Z9 0,Z9 0,Z9 0,Z9 0,Z9 0,Z9 0,ZY,Z9 0,Z9 0,ZV 0,Z9 0,Z9 0,.slice none 0 0]) 31)) JE.heap.size (#[Z9 0,Z9 0,Z9 0,Z9 0,Z9 0,Z9 0,ZY,Z9 0,Z9 0,ZV 0,Z9 0,Z9 0,.slice none 0 0]) 31:=heap_alloc_last JE _;have aa9:(JE.alloc (.cells (#[Z9 0,Z9 0,Z9 0,Z9 0,Z9 0,Z9 0,ZY,Z9 0,Z9 0,ZV 0,Z9 0,Z9 0,.slice none 0 0]) 31)).heap.size=JE.heap.size+1:=by simp
 generalize JE.alloc (.cells (#[Z9 0,Z9 0,Z9 0,Z9 0,Z9 0,Z9 0,ZY,Z9 0,Z9 0,ZV 0,Z9 0,Z9 0,.slice none 0 0]) 31)=W at *
 obtain⟨g2,hg2⟩:=ZR w.heap.size;rw[hg2] at hX2;obtain⟨g3,hg3⟩:=ZR YP.heap.size;rw[hg3] at Zr;obtain⟨g4,hg4⟩:=ZR JE.heap.size;rw[hg4] at Xu;have hq1:w.heap.size+1=g3:=by omega
 have hq2:w.heap.size+2=g4:=by omega
 have Xm:Hid (g2=w.heap.size+0/\g3=w.heap.size+1/\g4=w.heap.size+2/\W.heap.size=w.heap.size+3):=Z8 ⟨by omega,by omega,by omega,by omega⟩;have HB:=Z8 tZ;simp only[hg2];try simp only[show g2+1=g3 by omega]
 try simp only[show g3+1=g4 by omega]
 clear Zd Yg hg2 XE Vg hg3 tZ aa9 hg4 hq1 hq2;have EU:=CA.out W HB.out;by_cases hj:Vs e.k LL<LL.length
 ·rw[show DV e.k LL=((Vs e.k LL:Nat):Int) from if_pos hj] at EU;have HO:Hid (YC (c.getD 0 0) (c.getD 1 0) LL e=8):=Z8 (if_pos hj);generalize Vs e.k LL=j at *
  refine wl<|ZQ (Z7 g2 12)<|ZC rfl ⟨g2,12,none⟩ (.slice a n cp) (hX2.ZM 12)<|ZQ (Z7 g3 0)<|ZC rfl ⟨g3,0,none⟩ (.agg (Zv e.k)) (Yw (ZU Zr)) <|
   YD (Z9 j) (fun w'=>Below W.heap.size W w') (EU) (fun V2 hV2=>?_)
  refine Zg (Va rfl j 0 dT)<|wn ?_;simp only[pu];have Yt:=hX2.below hX2.lt hV2;have WM:=Zr.below Zr.lt hV2;have WU:=Xu.below Xu.lt hV2;have HB2:=Z8 (HB.out.trans (hV2.mono HB.out.size));have HG:=Z8 (show g2≠g4/\g3≠g4/\w.heap.size<=g4 by have:=Xm.out; omega);clear hX2 Zr Xu hV2 EU Xm CA;obtain⟨V3,hst3,Zc,Ya⟩:=st_all (cs':=Y0 c a n cp) (ty:=31) WU rfl (by kernel_rfl) (by kernel_rfl);have HE:=Z8 (HOLD.out V3 8 (HB2.out.trans (Ya.1.mono HG.out.2.2)) (HO.out) (by decide));have Vf:=Z8 (YA Zc);clear WU Zc Ya WO HOLD;go_upto_region 2 with fail;refine wl<|ZC rfl ⟨g2,0,none⟩ (.agg (Y0 c a n cp)) (YA Yt)<|Yb rfl (hst3)<|ZQ (Z9 8)<|wn ?_;simp only[pu];clear hst3 Yt;go_wp2_with fail;exact bodyPost_ret (Yh rfl (by kernel_rfl) Vf.out (by kernel_rfl)) rfl HE.out
 ·rw[show DV e.k LL=-1 from if_neg hj] at EU;have HJ:=Z8 hj;clear hj;refine wl<|ZQ (Z7 g2 12)<|ZC rfl ⟨g2,12,none⟩ (.slice a n cp) (hX2.ZM 12)<|ZQ (Z7 g3 0)<|ZC rfl ⟨g3,0,none⟩ (.agg (Zv e.k)) (Yw (ZU Zr)) <|
   YD (Z9 (-1)) (fun w'=>Below W.heap.size W w') (EU) (fun V2 hV2=>?_)
  refine Zg (Va rfl (-1) 0 dF)<|wn ?_;simp only[pu];have Yt:=hX2.below hX2.lt hV2;have WM:=Zr.below Zr.lt hV2;have WU:=Xu.below Xu.lt hV2;have HB2:=Z8 (HB.out.trans (hV2.mono HB.out.size));have HG:=Z8 (show g2≠g4/\g3≠g4/\w.heap.size<=g4 by have:=Xm.out; omega);clear hX2 Zr Xu hV2 EU Xm CA;go_upto_region 3 with fail;refine wl<|ZQ (Z7 g2 12)<|ZC rfl ⟨g2,12,none⟩ (.slice a n cp) (Yt.ZM 12)<|ZB (Z9 n) (Z9 0)<|wn ?_;simp only[pu];have tY:=Z8 Yt;have tX:=Z8 WM;have tV:=Z8 WU;clear Yt WM WU;go_wp2_with fail;go_loopg [18] n (fun gg s18 wx=>∃ (i:Nat),s18=Z9 i/\i<=n/\gg+i=n/\Hid (Below V2.heap.size V2 wx/\∀ j,j<i->Lu e.snd e.sq (LL.getD j Zp)=false))
  case atStart=>exact⟨0,rfl,by omega,by omega,Z8 ⟨Below.refl _ _,fun j hj=>by omega⟩⟩
  case round=>
   obtain⟨i,rfl,hin,hg,HR⟩:=hrel;have WH:Hid (gk+i=n):=Z8 hg;clear hg;by_cases hlt:i<n
   ·obtain⟨b,off,hbb,hrg⟩:=QY.out wr (HB2.out.trans (HR.out.1.mono HB2.out.size)) i hlt;obtain rfl:=hbb;have hkx:=Kz.out.1 i hlt;obtain⟨x,hx⟩:=ZR (X.getD i Yr);rw[hx] at hrg hkx;obtain⟨V5,hst2,hb2,JQ⟩:=Zk (c:=ZO Zp YE) (c':=ZO x.1 x.2) (ty:=52) wr rfl (YW _ _) (by kernel_rfl);have HR2:=Z8 (HR.out.1.trans (hb2.mono HR.out.1.size));have HQ:=Z8 HR.out.2;have HKQ:=Z8 hkx;clear hx hkx HR;go_upto_region 4 with fail;refine wl<|Zg (ZG rfl (i) (n) dT)<|wn ?_;simp only[pu];go_upto_region 5 with fail;refine wl<|Za (Z7 b (off+i*41)) (Zo b off n cp i hlt _ _ _ rfl (by kernel_rfl) (by kernel_rfl))<|ZC rfl ⟨b,off+i*41,none⟩ (.agg (ZO x.1 x.2)) (ZE hrg) ?_;refine Zj rfl (some 7) rfl (Z7 wr.heap.size 0) (wr.alloc (.cells (ZO Zp YE) 52)) (by kernel_rfl) ?_;refine Yb rfl (hst2)<|wn ?_;obtain⟨g7,oh⟩:=ZR wr.heap.size;rw[oh] at JQ ⊢;have LM:=tX.out.below tX.out.lt HR2.out;clear hst2 hb2 hrg oh;by_cases wV:x.1.snd=e.snd
    ·by_cases hs9:x.1.sq=e.sq
     ·go_upto_region 6 with fail;refine wl<|ZQ (Z7 g7 33)<|ZC rfl ⟨g7,33,none⟩ (.string x.1.snd) (ZN (ZU JQ) (j:=33) rfl (by kernel_rfl))<|ZQ (Z7 g3 33) <|
       ZC rfl ⟨g3,33,none⟩ (.string e.snd) (ZN (ZU LM) (j:=33) rfl (by kernel_rfl))<|Yd ZX (Ak rfl x.1.snd e.snd (by rw[yI]; exact decide_eq_true wV))<|ZB ZX (Z7 g7 34) <|
       ZC rfl ⟨g7,34,none⟩ (ZV x.1.sq) (ZN (ZU JQ) (j:=34) rfl (by kernel_rfl))<|ZQ (Z7 g3 34)<|ZC rfl ⟨g3,34,none⟩ (ZV e.sq) (ZN (ZU LM) (j:=34) rfl (by kernel_rfl)) <|
       Zg (Uo rfl x.1.sq e.sq (decide_eq_true hs9))<|ZQ ZX<|wn ?_
      simp only[pu];have HO:Hid (YC (c.getD 0 0) (c.getD 1 0) LL e=9):=Z8 (by
       unfold YC;rw[if_neg HJ.out,if_pos (List.any_eq_true.2 ⟨LL.getD i Zp,by rw[List.getD_eq_getElem?_getD,List.getElem?_eq_getElem (by have:=Kz.out.2; omega)]; exact List.getElem_mem _,by rw[HKQ.out]; exact OJ.2 ⟨wV,hs9⟩⟩)])
      have Yt:=tY.out.below tY.out.lt HR2.out;have WU:=tV.out.below tV.out.lt HR2.out;have tN:=Z8 (HB2.out.trans (HR2.out.mono HB2.out.size));clear HB2;have HB2:=tN;clear tN JQ LM;obtain⟨V3,hst3,Zc,Ya⟩:=st_all (cs':=Y0 c (some ⟨b,off,none⟩) n cp) (ty:=31) WU rfl (by kernel_rfl) (by kernel_rfl);have HE:=Z8 (HOLD.out V3 9 (HB2.out.trans (Ya.1.mono HG.out.2.2)) (HO.out) (by decide));have Vf:=Z8 (YA Zc);clear WU Zc Ya WO HOLD;go_upto_region 7 with fail;refine wl<|ZC rfl ⟨g2,0,none⟩ (.agg (Y0 c (some ⟨b,off,none⟩) n cp)) (YA Yt)<|Yb rfl (hst3)<|ZQ (Z9 9)<|wn ?_;simp only[pu];clear hst3 Yt;go_wp2_with fail;exact bodyPost_ret (Yh rfl (by kernel_rfl) Vf.out (by kernel_rfl)) rfl HE.out
     ·go_upto_region 6 with fail;refine wl<|ZQ (Z7 g7 33)<|ZC rfl ⟨g7,33,none⟩ (.string x.1.snd) (ZN (ZU JQ) (j:=33) rfl (by kernel_rfl))<|ZQ (Z7 g3 33) <|
       ZC rfl ⟨g3,33,none⟩ (.string e.snd) (ZN (ZU LM) (j:=33) rfl (by kernel_rfl))<|Yd ZX (Ak rfl x.1.snd e.snd (by rw[yI]; exact decide_eq_true wV))<|ZB ZX (Z7 g7 34) <|
       ZC rfl ⟨g7,34,none⟩ (ZV x.1.sq) (ZN (ZU JQ) (j:=34) rfl (by kernel_rfl))<|ZQ (Z7 g3 34)<|ZC rfl ⟨g3,34,none⟩ (ZV e.sq) (ZN (ZU LM) (j:=34) rfl (by kernel_rfl)) <|
       Zg (Uo rfl x.1.sq e.sq (decide_eq_false hs9))<|ZQ ZY<|wn ?_
      simp only[pu];have HE:Hid (Lu e.snd e.sq x.1=false):=Z8 (by unfold Lu; rw[decide_eq_false hs9,Bool.and_false]);clear JQ LM;go_upto_region 8 with fail;refine wl<|Za (Z9 (i+1:Nat)) (add_one rfl i (by have:=uf.out.2.2; omega) (by kernel_rfl) _)<|ZQ (Z9 (i+1:Nat))<|wn ?_;simp only[pu];go_wp2_with fail;go_roundg (n-(i+1))
      case measure=>have:=WH.out; omega
      case rel=>
       refine⟨i+1,rfl,by omega,by omega,Z8 ⟨HR2.out,fun j hj=>?_⟩⟩;rcases Nat.lt_or_ge j i with h1 | h1
       ·exact HQ.out j h1
       ·obtain rfl:j=i:=(by omega);rw[HKQ.out]; exact HE.out
    ·go_upto_region 6 with fail;refine wl<|ZQ (Z7 g7 33)<|ZC rfl ⟨g7,33,none⟩ (.string x.1.snd) (ZN (ZU JQ) (j:=33) rfl (by kernel_rfl))<|ZQ (Z7 g3 33) <|
      ZC rfl ⟨g3,33,none⟩ (.string e.snd) (ZN (ZU LM) (j:=33) rfl (by kernel_rfl))<|Yd ZY (Ak rfl x.1.snd e.snd (by rw[yI]; exact decide_eq_false wV))<|Ia ZY undef undef undef undef undef <|
      ZQ ZY<|wn ?_
     simp only[pu];have HE:Hid (Lu e.snd e.sq x.1=false):=Z8 (by unfold Lu; rw[decide_eq_false wV,Bool.false_and]);clear JQ LM;go_upto_region 8 with fail;refine wl<|Za (Z9 (i+1:Nat)) (add_one rfl i (by have:=uf.out.2.2; omega) (by kernel_rfl) _)<|ZQ (Z9 (i+1:Nat))<|wn ?_;simp only[pu];go_wp2_with fail;go_roundg (n-(i+1))
     case measure=>have:=WH.out; omega
     case rel=>
      refine⟨i+1,rfl,by omega,by omega,Z8 ⟨HR2.out,fun j hj=>?_⟩⟩;rcases Nat.lt_or_ge j i with h1 | h1
      ·exact HQ.out j h1
      ·obtain rfl:j=i:=(by omega);rw[HKQ.out]; exact HE.out
   ·obtain rfl:i=n:=(by omega);go_upto_region 4 with fail;refine wl<|Zg (ZG rfl (i) (i) dF)<|wn ?_;simp only[pu];have Yt:=tY.out.below tY.out.lt HR.out.1;have WM:=tX.out.below tX.out.lt HR.out.1;have WU:=tV.out.below tV.out.lt HR.out.1;have tN:=Z8 (HB2.out.trans (HR.out.1.mono HB2.out.size));have HNS:Hid (¬ (LL.any (Lu e.snd e.sq)=true)):=Z8 fun q=>by
     obtain⟨y9,hy,q⟩:=List.any_eq_true.1 q;obtain⟨j9,hj9,rfl⟩:=List.getElem_of_mem hy;have h1:=HR.out.2 j9 (by have:=Kz.out.2; omega);rw[List.getD_eq_getElem?_getD,List.getElem?_eq_getElem hj9] at h1;rw[show(some LL[j9]).getD Zp=LL[j9] from rfl,q] at h1;cases h1
    clear HB2 HR;have HB2:=tN;clear tN tY tX tV;generalize wr=V3 at *
    have CB2:=fun V (hV:Below V3.heap.size V3 V)=>CBY.out V (HB2.out.trans (hV.mono HB2.out.size));obtain⟨wU,hrw⟩:=ZR (Yl LL);rw[hrw] at CB2;have HRW:=Z8 hrw;have kM:Hid (wU<=40000000/\e.raw.length<=60000/\i<=1000):=Z8 (by rw[<- hrw]; exact uf.out);obtain⟨mt,hmt⟩:=ZR (c.getD 0 0);obtain⟨mb,hmb⟩:=ZR (c.getD 1 0);have eH:=Z8 hmt;have oI:=Z8 hmb;clear hrw uf CBY hmt hmb;by_cases hf1:mt<=(i:Int)
    ·go_upto_region 9 with fail;refine ZT (C:=fun U=>Below V3.heap.size V3 U) (by kernel_rfl) (by kernel_rfl) ((Below.refl _ V3).drew) ?_;refine gy (Z7 g2 12)<|Zx rfl ⟨g2,12,none⟩ (.slice a i cp) (fun U hU=>(Yt.below Yt.lt hU).ZM 12)<|gy (Z9 i)<|gy (Z7 g2 0)<|gy (Z7 g2 0) <|
       Zx rfl ⟨g2,0,none⟩ (Z9 mt) (fun U hU=>(Yt.below Yt.lt hU).load (i:=0) (by rw[<- eH.out]; rfl) (by kernel_rfl))<|Ze ZX (fun U hU=>Va rfl (i:Int) mt (decide_eq_true hf1) (by kernel_rfl) (by kernel_rfl) U)<|gy ZX<|Zh<|Zh<|Zh<|Zh <|
       Zh<|Zh<|Zh<|Zh<|Zh<|Zh<|Zh<|gy ZX ?_
     simp only[pu];apply wpQuiet_nil;intro V4 MK;have ES:=Yt.below Yt.lt MK;have LC:=WM.below WM.lt MK;have ER:=WU.below WU.lt MK;have HB4:=Z8 (HB2.out.trans (MK.mono HB2.out.size));clear Yt WM WU MK HB2 CB2;have Yt:=ES;have WM:=LC;have WU:=ER;have HB2:=HB4;clear ES LC ER HB4;generalize V4=V7 at *
     have HO:Hid (YC (c.getD 0 0) (c.getD 1 0) LL e=24):=Z8 (by unfold YC; rw[if_neg HJ.out,if_neg HNS.out,if_pos (.inl (by rw[eH.out,Kz.out.2]; exact hf1))]);obtain⟨V3,hst3,Zc,Ya⟩:=st_all (cs':=Y0 c a i cp) (ty:=31) WU rfl (by kernel_rfl) (by kernel_rfl);have HE:=Z8 (HOLD.out V3 24 (HB2.out.trans (Ya.1.mono HG.out.2.2)) (HO.out) (by decide));have Vf:=Z8 (YA Zc);clear WU Zc Ya WO HOLD;go_upto_region 10 with fail;refine wl<|ZC rfl ⟨g2,0,none⟩ (.agg (Y0 c a i cp)) (YA Yt)<|Yb rfl (hst3)<|ZQ (Z9 24)<|wn ?_;simp only[pu];clear hst3 Yt;go_wp2_with fail;exact bodyPost_ret (Yh rfl (by kernel_rfl) Vf.out (by kernel_rfl)) rfl HE.out
    ·by_cases hf2:mb<(wU:Int)+e.raw.length
     ·go_upto_region 9 with fail;refine ZT (C:=fun U=>Below V3.heap.size V3 U) (by kernel_rfl) (by kernel_rfl) ((Below.refl _ V3).drew) ?_;refine gy (Z7 g2 12)<|Zx rfl ⟨g2,12,none⟩ (.slice a i cp) (fun U hU=>(Yt.below Yt.lt hU).ZM 12)<|gy (Z9 i)<|gy (Z7 g2 0)<|gy (Z7 g2 0) <|
        Zx rfl ⟨g2,0,none⟩ (Z9 mt) (fun U hU=>(Yt.below Yt.lt hU).load (i:=0) (by rw[<- eH.out]; rfl) (by kernel_rfl))<|Ze ZY (fun U hU=>Va rfl (i:Int) mt (decide_eq_false hf1) (by kernel_rfl) (by kernel_rfl) U)<|gy ZY <|
        gy (Z7 g2 12)<|Zx rfl ⟨g2,12,none⟩ (.slice a i cp) (fun U hU=>(Yt.below Yt.lt hU).ZM 12) ?_
      refine ZA (by kernel_rfl) (some 46) rfl 39 #[.slice a i cp] (Z9 wU) (fun U hU=>by kernel_rfl) (fun U hU=>(CB2 U hU).mono fun e w2 z=>⟨z.1,hU.trans (z.2.mono hU.size)⟩) ?_;refine gy (Z7 g3 32)<|Zx rfl ⟨g3,32,none⟩ (.slice d.ra e.raw.length d.rc) (fun U hU=>ZN (ZU (WM.below WM.lt hU)) (j:=32) rfl (by kernel_rfl))<|gy (Z9 e.raw.length) <|
        Ze (Z9 ((wU:Int)+e.raw.length)) (fun U hU=>W9 rfl wU e.raw.length (by have:=kM.out; omega) (by kernel_rfl) (by kernel_rfl) U)<|gy (Z7 g2 0)<|gy (Z7 g2 1) <|
        Zx rfl ⟨g2,1,none⟩ (Z9 mb) (fun U hU=>(Yt.below Yt.lt hU).load (i:=1) (by rw[<- oI.out]; rfl) (by kernel_rfl))<|Ze ZX (fun U hU=>YO rfl ((wU:Int)+e.raw.length) mb (decide_eq_true hf2) (by kernel_rfl) (by kernel_rfl) U)<|gy ZX ?_
      simp only[pu];apply wpQuiet_nil;intro V4 MK;have ES:=Yt.below Yt.lt MK;have LC:=WM.below WM.lt MK;have ER:=WU.below WU.lt MK;have HB4:=Z8 (HB2.out.trans (MK.mono HB2.out.size));clear Yt WM WU MK HB2 CB2;have Yt:=ES;have WM:=LC;have WU:=ER;have HB2:=HB4;clear ES LC ER HB4;generalize V4=V7 at *
      have HO:Hid (YC (c.getD 0 0) (c.getD 1 0) LL e=24):=Z8 (by unfold YC; rw[if_neg HJ.out,if_neg HNS.out,if_pos (.inr (by rw[oI.out,HRW.out]; exact hf2))]);obtain⟨V3,hst3,Zc,Ya⟩:=st_all (cs':=Y0 c a i cp) (ty:=31) WU rfl (by kernel_rfl) (by kernel_rfl);have HE:=Z8 (HOLD.out V3 24 (HB2.out.trans (Ya.1.mono HG.out.2.2)) (HO.out) (by decide));have Vf:=Z8 (YA Zc);clear WU Zc Ya WO HOLD;go_upto_region 10 with fail;refine wl<|ZC rfl ⟨g2,0,none⟩ (.agg (Y0 c a i cp)) (YA Yt)<|Yb rfl (hst3)<|ZQ (Z9 24)<|wn ?_;simp only[pu];clear hst3 Yt;go_wp2_with fail;exact bodyPost_ret (Yh rfl (by kernel_rfl) Vf.out (by kernel_rfl)) rfl HE.out
     ·go_upto_region 9 with fail;refine ZT (C:=fun U=>Below V3.heap.size V3 U) (by kernel_rfl) (by kernel_rfl) ((Below.refl _ V3).drew) ?_;refine gy (Z7 g2 12)<|Zx rfl ⟨g2,12,none⟩ (.slice a i cp) (fun U hU=>(Yt.below Yt.lt hU).ZM 12)<|gy (Z9 i)<|gy (Z7 g2 0)<|gy (Z7 g2 0) <|
        Zx rfl ⟨g2,0,none⟩ (Z9 mt) (fun U hU=>(Yt.below Yt.lt hU).load (i:=0) (by rw[<- eH.out]; rfl) (by kernel_rfl))<|Ze ZY (fun U hU=>Va rfl (i:Int) mt (decide_eq_false hf1) (by kernel_rfl) (by kernel_rfl) U)<|gy ZY <|
        gy (Z7 g2 12)<|Zx rfl ⟨g2,12,none⟩ (.slice a i cp) (fun U hU=>(Yt.below Yt.lt hU).ZM 12) ?_
      refine ZA (by kernel_rfl) (some 46) rfl 39 #[.slice a i cp] (Z9 wU) (fun U hU=>by kernel_rfl) (fun U hU=>(CB2 U hU).mono fun e w2 z=>⟨z.1,hU.trans (z.2.mono hU.size)⟩) ?_;refine gy (Z7 g3 32)<|Zx rfl ⟨g3,32,none⟩ (.slice d.ra e.raw.length d.rc) (fun U hU=>ZN (ZU (WM.below WM.lt hU)) (j:=32) rfl (by kernel_rfl))<|gy (Z9 e.raw.length) <|
        Ze (Z9 ((wU:Int)+e.raw.length)) (fun U hU=>W9 rfl wU e.raw.length (by have:=kM.out; omega) (by kernel_rfl) (by kernel_rfl) U)<|gy (Z7 g2 0)<|gy (Z7 g2 1) <|
        Zx rfl ⟨g2,1,none⟩ (Z9 mb) (fun U hU=>(Yt.below Yt.lt hU).load (i:=1) (by rw[<- oI.out]; rfl) (by kernel_rfl))<|Ze ZY (fun U hU=>YO rfl ((wU:Int)+e.raw.length) mb (decide_eq_false hf2) (by kernel_rfl) (by kernel_rfl) U)<|gy ZY ?_
      simp only[pu];apply wpQuiet_nil;intro V4 MK;have ES:=Yt.below Yt.lt MK;have LC:=WM.below WM.lt MK;have ER:=WU.below WU.lt MK;have HB4:=Z8 (HB2.out.trans (MK.mono HB2.out.size));clear Yt WM WU MK HB2 CB2;have Yt:=ES;have WM:=LC;have WU:=ER;have HB2:=HB4;clear ES LC ER HB4;generalize V4=V7 at *
      have HO:Hid (YC (c.getD 0 0) (c.getD 1 0) LL e=0):=Z8 (by
       unfold YC;rw[if_neg HJ.out,if_neg HNS.out,if_neg (by rw[eH.out,oI.out,HRW.out,Kz.out.2]; exact fun q=>q.elim hf1 hf2)])
      have h0:=KI.start (w:=w) (g4:=g4) (x:=(e,d)) HB2.out Yt WM X undef undef undef undef undef;have JM:=Z8 WU;have wS:=Z8 (show g2<V7.heap.size/\g3<V7.heap.size/\w.heap.size<=V7.heap.size by have:=Yt.lt; have:=WM.lt; have:=HB2.out.size; omega);clear Yt WM WU HOLD;go_upto_region 11 with fail;refine ZK (fun listed ZH V=>∃ b0 b1 b2 b3 b4 b5 b6 b7 b8 b9 b10 b11:Bool,∃ x59 x62 x64 x65 x66:Value,listed=#[b0,b1,b2,b3,b4,b5,b6,b7,b8,b9,b10,b11]/\ZH={ tmps:=#[.agg (Y0 c a i cp),.agg (ZO e d),Z7 g2 0,Z7 g3 0,Z7 g4 0,(cond b11 (Z9 0) (u5)),undef,u7,Z7 g2 12,.slice a i cp,Z7 g3 0,.agg (Zv e.k),Z9 (-1),ZY,undef,Z7 g2 12,.slice a i cp,Z9 i,Z9 i,ZY,u20,u21,u22,u23,u24,u25,u26,u27,u28,u29,u30,u31,u32,u33,u34,u35,Z7 g2 12,.slice a i cp,Z9 i,Z7 g2 0,Z7 g2 0,Z9 mt,ZY,ZY,Z7 g2 12,.slice a i cp,Z9 wU,Z7 g3 32,.slice d.ra e.raw.length d.rc,Z9 e.raw.length,Z9 ((wU:Int)+e.raw.length),Z7 g2 0,Z7 g2 1,Z9 mb,ZY,ZY,undef,(cond b0 (Z7 g2 0) undef),(cond b1 (.agg (Zu c)) undef),x59,(cond b3 (Z7 g2 12) undef),(cond b4 (.slice a i cp) undef),x62,(cond b6 (.agg (ZO e d)) undef),x64,x65,x66],defers:=[] }/\KI w V7 c a i cp g2 g3 g4 X (e,d) b2 b5 b7 b8 b9 b10 x59 x62 x64 x65 x66 V) (by kernel_rfl) (by kernel_rfl) ?_ ?_ ?_
      ·exact⟨_,_,_,_,_,_,_,_,_,_,_,_,_,_,_,_,_,rfl,rfl,h0⟩
      ·intro i9 listed ZH V hi9 hr hJ;obtain⟨b0,b1,b2,b3,b4,b5,b6,b7,b8,b9,b10,b11,x59,x62,x64,x65,x66,rfl,rfl,hF⟩:=hJ;have hi2:i9<12:=hi9;have hi3:i9=0∨i9=1∨i9=2∨i9=3∨i9=4∨i9=5∨i9=6∨i9=7∨i9=8∨i9=9∨i9=10∨i9=11:=(by omega);rcases hi3 with rfl | rfl | rfl | rfl | rfl | rfl | rfl | rfl | rfl | rfl | rfl | rfl
       ·obtain rfl:b0=false:=Z5 hr;refine ZW rfl (by kernel_rfl) (some 57) rfl (Z7 g2 0) V (by kernel_rfl) ?_;exact⟨_,_,_,_,_,_,_,_,_,_,_,_,_,_,_,_,_,rfl,rfl,hF⟩
       ·obtain rfl:b1=false:=Z5 hr;obtain rfl:b0=true:=Z4 hr 0;refine ZI rfl (by kernel_rfl) (some 58) rfl 25 (.tmp 57) rfl ⟨g2,0,none⟩ (.agg (Zu c)) (by kernel_rfl) (MJ hF.p2) ?_;exact⟨_,_,_,_,_,_,_,_,_,_,_,_,_,_,_,_,_,rfl,rfl,hF⟩
       ·obtain rfl:b2=false:=Z5 hr;obtain⟨rfl,rfl,rfl,rfl⟩:=hF.n2;refine Yz rfl (by kernel_rfl) (some 59) rfl 29 0 #[] rfl #[] (by kernel_rfl) (.slice (some ⟨V.heap.size,0,none⟩) 0 0) _ (QV V) ?_;have Qj:=hF.nil;exact⟨_,_,_,_,_,_,_,_,_,_,_,_,_,_,_,_,_,rfl,rfl,Qj⟩
       ·obtain rfl:b3=false:=Z5 hr;refine ZW rfl (by kernel_rfl) (some 60) rfl (Z7 g2 12) V (by kernel_rfl) ?_;exact⟨_,_,_,_,_,_,_,_,_,_,_,_,_,_,_,_,_,rfl,rfl,hF⟩
       ·obtain rfl:b4=false:=Z5 hr;obtain rfl:b3=true:=Z4 hr 3;refine ZI rfl (by kernel_rfl) (some 61) rfl 29 (.tmp 60) rfl ⟨g2,12,none⟩ (.slice a i cp) (by kernel_rfl) (hF.p2.ZM 12) ?_;exact⟨_,_,_,_,_,_,_,_,_,_,_,_,_,_,_,_,_,rfl,rfl,hF⟩
       ·obtain rfl:b5=false:=Z5 hr;obtain rfl:b2=true:=Z4 hr 2;obtain rfl:b4=true:=Z4 hr 4;obtain⟨rfl,rfl,rfl⟩:=hF.n5;obtain⟨v9,V9,tK,Qj⟩:=hF.app1 wS.out.2.2 (HMR.out V hF.bel) HN.out (by have:=kM.out; omega) wS.out.1 wS.out.2.1;refine Zf rfl (by kernel_rfl) (some 62) rfl 29 rfl (.tmp 59) (.tmp 61) 29 rfl x59 (.slice a i cp) v9 V9 (by kernel_rfl) (by kernel_rfl) tK ?_;exact⟨_,_,_,_,_,_,_,_,_,_,_,_,_,_,_,_,_,rfl,rfl,Qj⟩
       ·obtain rfl:b6=false:=Z5 hr;refine ZI rfl (by kernel_rfl) (some 63) rfl 52 (.tmp 3) rfl ⟨g3,0,none⟩ (.agg (ZO e d)) (by kernel_rfl) (ZE (ZU hF.p3)) ?_;exact⟨_,_,_,_,_,_,_,_,_,_,_,_,_,_,_,_,_,rfl,rfl,hF⟩
       ·obtain rfl:b7=false:=Z5 hr;obtain rfl:b6=true:=Z4 hr 6;obtain⟨rfl,rfl,rfl⟩:=hF.n7;refine Yz rfl (by kernel_rfl) (some 64) rfl 29 1 #[(0,.tmp 63)] rfl #[(0,.agg (ZO e d))] (by kernel_rfl) (.slice (some ⟨V.heap.size,0,none⟩) 1 1) _ (Vr (e,d) V) ?_;have Qj:=hF.key;exact⟨_,_,_,_,_,_,_,_,_,_,_,_,_,_,_,_,_,rfl,rfl,Qj⟩
       ·obtain rfl:b8=false:=Z5 hr;obtain rfl:b5=true:=Z4 hr 5;obtain rfl:b7=true:=Z4 hr 7;obtain⟨rfl,rfl⟩:=hF.n8;obtain⟨gq,v9,V9,rfl,tK,Qj⟩:=hF.app2 wS.out.2.2 (by rw[HN.out]; have:=kM.out; omega) wS.out.1 wS.out.2.1;refine Zf rfl (by kernel_rfl) (some 65) rfl 29 rfl (.tmp 62) (.tmp 64) 29 rfl x62 (.slice (some ⟨gq,0,none⟩) 1 1) v9 V9 (by kernel_rfl) (by kernel_rfl) tK ?_;exact⟨_,_,_,_,_,_,_,_,_,_,_,_,_,_,_,_,_,rfl,rfl,Qj⟩
       ·obtain rfl:b9=false:=Z5 hr;obtain rfl:b1=true:=Z4 hr 1;obtain rfl:b8=true:=Z4 hr 8;obtain rfl:=hF.n9;obtain⟨a9,c9,rfl,Qj⟩:=hF.build;refine ZW rfl (by kernel_rfl) (some 66) rfl (.agg (Y0 c a9 (X++[(e,d)]).length c9)) V (EP rfl c a9 (X++[(e,d)]).length c9 (by kernel_rfl) (by kernel_rfl) _) ?_;exact⟨_,_,_,_,_,_,_,_,_,_,_,_,_,_,_,_,_,rfl,rfl,Qj⟩
       ·obtain rfl:b10=false:=Z5 hr;obtain rfl:b9=true:=Z4 hr 9;obtain rfl:b8=true:=hF.o9 rfl;obtain⟨a9,c9,V9,rfl,YM,Qj⟩:=hF.store (cs:=#[Z9 0,Z9 0,Z9 0,Z9 0,Z9 0,Z9 0,ZY,Z9 0,Z9 0,ZV 0,Z9 0,Z9 0,.slice none 0 0]) rfl JM.out HG.out.2.2 HG.out.1 HG.out.2.1;refine YL rfl (by kernel_rfl) rfl 31 (.tmp 4) (.tmp 66) rfl (Z7 g4 0) (.agg (Y0 c a9 (X++[(e,d)]).length c9)) (by kernel_rfl) (by kernel_rfl) V9 YM ?_;exact⟨_,_,_,_,_,_,_,_,_,_,_,_,_,_,_,_,_,rfl,rfl,Qj⟩
       ·obtain rfl:b11=false:=Z5 hr;refine ZW rfl (by kernel_rfl) (some 5) rfl (Z9 0) V (by kernel_rfl) ?_;exact⟨_,_,_,_,_,_,_,_,_,_,_,_,_,_,_,_,_,rfl,rfl,hF⟩
      ·intro ZH V hJ;obtain⟨b0,b1,b2,b3,b4,b5,b6,b7,b8,b9,b10,b11,x59,x62,x64,x65,x66,he,rfl,hF⟩:=hJ;have he:(#[true,true,true,true,true,true,true,true,true,true,true,true]:Array Bool)=#[b0,b1,b2,b3,b4,b5,b6,b7,b8,b9,b10,b11]:=he;simp only[Array.mk.injEq,List.cons.injEq,and_true] at he;obtain⟨rfl,rfl,rfl,rfl,rfl,rfl,rfl,rfl,rfl,rfl,rfl,rfl⟩:=he;simp only[cond_true];obtain⟨a9,c9,-,hO,Zc⟩:=hF.st rfl;have Vf:=Z8 (YA Zc);have HE:=Z8 (WO.out V a9 c9 hF.bel HO.out hO);clear hF hO Zc h0 WO JM;go_wp2_with fail;exact bodyPost_ret (Yh rfl (by kernel_rfl) Vf.out (by kernel_rfl)) rfl HE.out
end Go.Proofs.YtnelmomagdcmnaaGreat
