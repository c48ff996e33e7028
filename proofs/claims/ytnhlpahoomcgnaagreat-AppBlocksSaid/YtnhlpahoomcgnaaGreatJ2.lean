/-
  Texts joined.
-/
import Derived.Test.YtnhlpahoomcgnaaGreatJ1
import Derived.Deep.QuietTactic
import Derived.BigQuiet
set_option maxRecDepth 100000
set_option maxHeartbeats 8000000
set_option linter.unusedSimpArgs false
set_option linter.unusedVariables false
namespace Go.Proofs.YtnhlpahoomcgnaaGreat
open Go.RowKit
theorem VH {w0 w w':World}(h:Below w0.heap.size w0 w)(h2:Below w.heap.size w w'):Below w0.heap.size w0 w':=h.trans (h2.mono h.size)
def szB (n:Int):Int:=if n<0 then 0 else 1+((Enc n).length:Nat)+n
theorem En {a:Option Addr}{c:Nat}{L:List Int}{w:World}(hL:L.length<=1000000)(hr:Sl w a c L)(hw:∀ x,x∈L->W8 x){e0:Int}(h:rd 0 0 L=(0,0,e0)) :
    Calls Tryz.prog 134 #[.slice a L.length c] w fun e w'=>e=.returned (.tuple #[Z4 0,Z8 0,Z8 e0])/\w=w':=by
  have:=IX a c L w hL hr hw;rw[h] at this;exact this
theorem GH {a:Option Addr}{c:Nat}{L:List Int}{w:World}(hL:L.length<=1000000)(hr:Sl w a c L)(hw:∀ x,x∈L->W8 x){t:Int}{k:Nat}(h:rd 0 0 L=(t,(k:Int),0)) :
    Calls Tryz.prog 134 #[.slice a L.length c] w fun e w'=>e=.returned (.tuple #[Z4 t,Z8 (k:Int),Z8 0])/\w=w':=by
  have:=IX a c L w hL hr hw;rw[h] at this;exact this
theorem wz (a:Option Addr)(c:Nat)(L:List Int)(w:World)(hL:L.length<=1000000)(hr:Sl w a c L)(hw:∀ x,x∈L->W8 x)(e0:Int)(h:rd 0 0 L=(0,0,e0))(he:e0≠0) :
    Calls Tryz.prog 133 #[.slice a L.length c] w fun e w'=>e=.returned (.tuple #[.agg #[Z8 0,Z8 0,Z4 0,.slice none 0 0],Z8 0,Z8 e0])/\Below w.heap.size w w':=by
  have hbn:=(Below.refl w.heap.size w).alloc (Nat.le_refl _) (.cells #[Z8 0,Z8 0,Z4 0,.slice none 0 0] 111);have cR:=En hL (ZK hr hbn) hw h;have h1:(e0 != 0)=true:=by simpa using he
  have h2:(e0 == 0)=false:=by simpa using he
  clear h he hbn;go_enter Tryz.func133,Tryz.ntmps133;go_wp2_with fail;refine cR.mono ?_;rintro e w1 ⟨rfl,rfl⟩;clear cR;go_wp2;exact bodyPost_ret (v:=.tuple #[.agg #[Z8 0,Z8 0,Z4 0,.slice none 0 0],Z8 0,Z8 e0]) (by simp[results,Tryz.results133,go_sem]) rfl ⟨rfl,(Below.refl _ _).alloc (Nat.le_refl _) _⟩
theorem oK (a:Option Addr)(c:Nat)(L:List Int)(w:World)(hL:L.length<=1000000)(hr:Sl w a c L)(hw:∀ x,x∈L->W8 x)(t kd:Int)(k:Nat)(h:rd 0 0 L=(t,(k:Int),0))(hg:WS t)(hk:t % 8=kd)(hkd:kd=0∨kd=2) :
    Calls Tryz.prog 133 #[.slice a L.length c] w fun e w'=>e=.returned (.tuple #[.agg #[Z8 (t / 8),Z8 kd,Z4 0,.slice none 0 0],Z8 (k:Int),Z8 0])/\Below w.heap.size w w':=by
  have hbn:=(Below.refl w.heap.size w).alloc (Nat.le_refl _) (.cells #[Z8 0,Z8 0,Z4 0,.slice none 0 0] 111);have cR:=GH hL (ZK hr hbn) hw h;obtain⟨h1,h2,h3⟩:=hg;have h0:0<=t:=by omega
  have h4:t<=18446744073709551615:=by omega
  clear h hbn h3;rcases hkd with rfl | rfl
  · go_enter Tryz.func133,Tryz.ntmps133;go_wp2_with fail;refine cR.mono ?_;rintro e w1 ⟨rfl,rfl⟩;clear cR;go_wp2;exact bodyPost_ret (v:=.tuple #[.agg #[Z8 (t / 8),Z8 0,Z4 0,.slice none 0 0],Z8 (k:Int),Z8 0]) (by simp[results,Tryz.results133,go_sem]) rfl ⟨rfl,(Below.refl _ _).alloc (Nat.le_refl _) _⟩
  · go_enter Tryz.func133,Tryz.ntmps133;go_wp2_with fail;refine cR.mono ?_;rintro e w1 ⟨rfl,rfl⟩;clear cR;go_wp2;exact bodyPost_ret (v:=.tuple #[.agg #[Z8 (t / 8),Z8 2,Z4 0,.slice none 0 0],Z8 (k:Int),Z8 0]) (by simp[results,Tryz.results133,go_sem]) rfl ⟨rfl,(Below.refl _ _).alloc (Nat.le_refl _) _⟩
theorem wo (a:Option Addr)(c:Nat)(L:List Int)(w:World)(hL:L.length<=1000000)(hr:Sl w a c L)(hw:∀ x,x∈L->W8 x)(t:Int)(k:Nat)(h:rd 0 0 L=(t,(k:Int),0))(h0:0<=t)(h1:t<=18446744073709551615)(hg:¬ WS t) :
    Calls Tryz.prog 133 #[.slice a L.length c] w fun e w'=>e=.returned (.tuple #[.agg #[Z8 0,Z8 0,Z4 0,.slice none 0 0],Z8 0,Z8 4])/\Below w.heap.size w w':=by
  have hbn:=(Below.refl w.heap.size w).alloc (Nat.le_refl _) (.cells #[Z8 0,Z8 0,Z4 0,.slice none 0 0] 111);have cR:=GH hL (ZK hr hbn) hw h;unfold WS at hg;have HG:=Z9 hg;clear h hbn hg;go_enter Tryz.func133,Tryz.ntmps133;go_wp2_with fail;refine cR.mono ?_;rintro e w1 ⟨rfl,rfl⟩;clear cR;go_wp2;all_goals first
    | (exfalso; have hh:=HG.out; clear HG; simp at *; omega)
    | exact bodyPost_ret (v:=.tuple #[.agg #[Z8 0,Z8 0,Z4 0,.slice none 0 0],Z8 0,Z8 4]) (by simp[results,Tryz.results133,go_sem]) rfl ⟨rfl,(Below.refl _ _).alloc (Nat.le_refl _) _⟩
def iF (w:World)(R:Ze×Int×Int)(e:Ending)(w':World):Prop:=
  ∃ v,e=.returned (.tuple #[.agg #[Z8 R.1.num,Z8 R.1.kind,Z4 R.1.val,v],Z8 R.2.1,Z8 R.2.2])/\Own w' w.heap.size v R.1.bytes/\Below w.heap.size w w'
theorem U7 {w w':World}{e0:Int}(hb:Below w.heap.size w w'):iF w (VJ,0,e0) (.returned (.tuple #[.agg #[Z8 0,Z8 0,Z4 0,.slice none 0 0],Z8 0,Z8 e0])) w':=⟨_,rfl,Own.nil _ _,hb⟩
def XF (w:World)(g:Nat)(c0 c1 c2 c3:Value):Prop:=
  w.cell? ⟨g,0,none⟩=some c0/\w.cell? ⟨g,1,none⟩=some c1/\w.cell? ⟨g,2,none⟩=some c2/\w.cell? ⟨g,3,none⟩=some c3/\∀ o,w.frozen? ⟨g,o,none⟩=false
theorem Xf (w:World)(c0 c1 c2 c3:Value):XF (w.alloc (.cells #[c0,c1,c2,c3] 111)) w.heap.size c0 c1 c2 c3:=by
  refine⟨by simp,by simp,by simp,by simp,fun o=>World.frozen?_alloc_at _ _ _ _ rfl⟩
theorem XF.lt {w:World}{g:Nat}{c0 c1 c2 c3:Value}(h:XF w g c0 c1 c2 c3):g<w.heap.size:=World.block_lt_of_cell? w (⟨g,0,none⟩:Addr) h.1
theorem XF.below {w w':World}{g:Nat}{c0 c1 c2 c3:Value}(h:XF w g c0 c1 c2 c3)(hb:Below w.heap.size w w'):XF w' g c0 c1 c2 c3:=by
  have hl:=h.lt;obtain⟨h0,h1,h2,h3,hf⟩:=h;exact⟨(hb.cell (p:=⟨g,0,none⟩) hl).trans h0,(hb.cell (p:=⟨g,1,none⟩) hl).trans h1,(hb.cell (p:=⟨g,2,none⟩) hl).trans h2,(hb.cell (p:=⟨g,3,none⟩) hl).trans h3,fun o=>(hb.frozen (p:=⟨g,o,none⟩) hl).trans (hf o)⟩
theorem XF.set {w:World}{g:Nat}{c0 c1 c2 c3:Value}(h:XF w g c0 c1 c2 c3)(d0 d1 d2 d3:Value) :
    XF ((((w.setCell ⟨g,0,none⟩ d0).setCell ⟨g,1,none⟩ d1).setCell ⟨g,2,none⟩ d2).setCell ⟨g,3,none⟩ d3) g d0 d1 d2 d3:=by
  obtain⟨h0,h1,h2,h3,hf⟩:=h;refine⟨?_,?_,?_,?_,fun o=>?_⟩
  · rw[World.cell?_setCell_other _ _ _ _ (by simp),World.cell?_setCell_other _ _ _ _ (by simp),World.cell?_setCell_other _ _ _ _ (by simp)];exact World.cell?_setCell_same _ _ _ h0
  · rw[World.cell?_setCell_other _ _ _ _ (by simp),World.cell?_setCell_other _ _ _ _ (by simp)];exact World.cell?_setCell_same _ _ _ ((World.cell?_setCell_other _ _ _ _ (by simp)).trans h1)
  · rw[World.cell?_setCell_other _ _ _ _ (by simp)];exact World.cell?_setCell_same _ _ _ ((World.cell?_setCell_other _ _ _ _ (by simp)).trans ((World.cell?_setCell_other _ _ _ _ (by simp)).trans h2))
  · exact World.cell?_setCell_same _ _ _ ((World.cell?_setCell_other _ _ _ _ (by simp)).trans ((World.cell?_setCell_other _ _ _ _ (by simp)).trans ((World.cell?_setCell_other _ _ _ _ (by simp)).trans h3)))
  · rw[World.frozen?_setCell,World.frozen?_setCell,World.frozen?_setCell,World.frozen?_setCell];exact hf o
theorem ai8 {w0 w:World}{g:Nat}(h:Below w0.heap.size w0 w)(hg:w0.heap.size<=g)(d0 d1 d2 d3:Value) :
    Below w0.heap.size w0 ((((w.setCell ⟨g,0,none⟩ d0).setCell ⟨g,1,none⟩ d1).setCell ⟨g,2,none⟩ d2).setCell ⟨g,3,none⟩ d3):=
  (((h.setCell (p:=⟨g,0,none⟩) hg _).setCell (p:=⟨g,1,none⟩) hg _).setCell (p:=⟨g,2,none⟩) hg _).setCell (p:=⟨g,3,none⟩) hg _
theorem NW {w0 w:World}{g:Nat}{c0 c1 c2 c3:Value}(h:XF w g c0 c1 c2 c3)(hb:Below w0.heap.size w0 w)(hg:w0.heap.size<=g)(d0 d1 d2 d3:Value) :
    ∃ W,(((w.setCell ⟨g,0,none⟩ d0).setCell ⟨g,1,none⟩ d1).setCell ⟨g,2,none⟩ d2).setCell ⟨g,3,none⟩ d3=W/\XF W g d0 d1 d2 d3/\Below w0.heap.size w0 W /\
      (∀ B v L,Own w B v L->g<B->Own W B v L)/\w.heap.size<=W.heap.size:=
  ⟨_,rfl,h.set _ _ _ _,ai8 hb hg _ _ _ _,fun B v L ho hl=>ownsRow_setCell_below (ownsRow_setCell_below (ownsRow_setCell_below (ownsRow_setCell_below ho (a:=⟨g,0,none⟩) hl _) (a:=⟨g,1,none⟩) hl _) (a:=⟨g,2,none⟩) hl _) (a:=⟨g,3,none⟩) hl _,by simp⟩
theorem ai9 {w0 w:World}{g:Nat}{c0 c1 c2 c3:Value}(h:XF w g c0 c1 c2 c3)(hb:Below w0.heap.size w0 w)(hg:w0.heap.size<=g)(d:Value) :
    ∃ W,w.setCell ⟨g,2,none⟩ d=W/\XF W g c0 c1 d c3/\Below w0.heap.size w0 W:=by
  refine⟨_,rfl,?_,hb.setCell (p:=⟨g,2,none⟩) hg _⟩;obtain⟨h0,h1,h2,h3,hf⟩:=h;exact⟨(World.cell?_setCell_other _ _ _ _ (by simp)).trans h0,(World.cell?_setCell_other _ _ _ _ (by simp)).trans h1,World.cell?_setCell_same _ _ _ h2,(World.cell?_setCell_other _ _ _ _ (by simp)).trans h3,fun o=>(World.frozen?_setCell _ _ _ _).trans (hf o)⟩
theorem aj0 {w0 w:World}{g:Nat}{c0 c1 c2 c3:Value}(h:XF w g c0 c1 c2 c3)(hb:Below w0.heap.size w0 w)(hg:w0.heap.size<=g)(d:Value) :
    ∃ W,w.setCell ⟨g,3,none⟩ d=W/\XF W g c0 c1 c2 d/\Below w0.heap.size w0 W/\(∀ B v L,Own w B v L->g<B->Own W B v L):=by
  refine⟨_,rfl,?_,hb.setCell (p:=⟨g,3,none⟩) hg _,fun B v L ho hl=>ownsRow_setCell_below ho (a:=⟨g,3,none⟩) hl _⟩;obtain⟨h0,h1,h2,h3,hf⟩:=h;exact⟨(World.cell?_setCell_other _ _ _ _ (by simp)).trans h0,(World.cell?_setCell_other _ _ _ _ (by simp)).trans h1,(World.cell?_setCell_other _ _ _ _ (by simp)).trans h2,World.cell?_setCell_same _ _ _ h3,fun o=>(World.frozen?_setCell _ _ _ _).trans (hf o)⟩
theorem AY (a:Option Addr)(c:Nat)(L:List Int)(w:World)(hL:L.length<=1000000)(hr:Sl w a c L)(hw:∀ x,x∈L->W8 x)(hc:L.length<=c) :
    Calls Tryz.prog 128 #[.slice a L.length c] w (iF w (U8 L)):=by
  have hbn:=(Below.refl w.heap.size w).alloc (Nat.le_refl _) (.cells #[Z8 0,Z8 0,Z4 0,.slice none 0 0] 111);have hz:w.heap.size<(w.alloc (.cells #[Z8 0,Z8 0,Z4 0,.slice none 0 0] 111)).heap.size:=by simp
  rcases NV L hw with⟨e0,h,he⟩ | ⟨t,h,ht0,ht1,hrd,hh0,aJ6,hle,-,-,hcs⟩
  · rw[GL h he];have cS:=wz a c L _ hL (ZK hr hbn) hw e0 h he;have h1:(e0 != 0)=true:=(by simpa using he);have h2:(e0 == 0)=false:=(by simpa using he);clear h he;go_enter Tryz.func128,Tryz.ntmps128;go_wp2_with fail;refine cS.mono ?_;rintro e w1 ⟨rfl,hb⟩;have hbl:=VH hbn hb;have K:=(Xf w _ _ _ _).below hb;have K':=Z9 K;obtain⟨k0,k1,k2,k3,kf⟩:=K;clear cS hbn hb hz;go_wp2;clear k0 k1 k2 k3 kf;obtain⟨W2,hW2,KE,KG,-,-⟩:=NW K'.out hbl (Nat.le_refl _) (Z8 0) (Z8 0) (Z4 0) (.slice none 0 0);rw[hW2];obtain⟨W3,hW3,wu,SN,-,-⟩:=NW KE KG (Nat.le_refl _) (Z8 0) (Z8 0) (Z4 0) (.slice none 0 0);rw[hW3];clear hW2 hW3 KE KG;obtain⟨k0,k1,k2,k3,kf⟩:=wu;exact bodyPost_ret (v:=.tuple #[.agg #[Z8 0,Z8 0,Z4 0,.slice none 0 0],Z8 0,Z8 e0]) (by simp[results,Tryz.results128,go_sem,k0,k1,k2,k3]) rfl (U7 SN)
  rcases hcs with hb | ⟨hg,hcs⟩
  · rw[GK hrd hb];have cS:=wo a c L _ hL (ZK hr hbn) hw t h hrd ht0 ht1 hb;clear hrd hb;go_enter Tryz.func128,Tryz.ntmps128;go_wp2_with fail;refine cS.mono ?_;rintro e w1 ⟨rfl,hb⟩;have hbl:=VH hbn hb;have K:=(Xf w _ _ _ _).below hb;have K':=Z9 K;obtain⟨k0,k1,k2,k3,kf⟩:=K;clear cS hbn hb hz;go_wp2;clear k0 k1 k2 k3 kf;obtain⟨W2,hW2,KE,KG,-,-⟩:=NW K'.out hbl (Nat.le_refl _) (Z8 0) (Z8 0) (Z4 0) (.slice none 0 0);rw[hW2];obtain⟨W3,hW3,wu,SN,-,-⟩:=NW KE KG (Nat.le_refl _) (Z8 0) (Z8 0) (Z4 0) (.slice none 0 0);rw[hW3];clear hW2 hW3 KE KG;obtain⟨k0,k1,k2,k3,kf⟩:=wu;exact bodyPost_ret (v:=.tuple #[.agg #[Z8 0,Z8 0,Z4 0,.slice none 0 0],Z8 0,Z8 4]) (by simp[results,Tryz.results128,go_sem,k0,k1,k2,k3]) rfl (U7 SN)
  obtain⟨kd,hk,hkd⟩:∃ kd,t % 8=kd/\(kd=0∨kd=2):=⟨_,rfl,hg.2.2⟩;have cS:=oK a c L _ hL (ZK hr hbn) hw t kd h hrd hg hk hkd;have HS:=Z9 (QB hr h hc);have hsl:=fun wx=>Uk .i64 a L.length c h wx hle;rcases hcs with⟨e0,h2,he⟩ | ⟨n,k,hn,h2,hk0,hk10,hle2,-,-⟩
  · rw[GI hrd hg h2 he];have cR:∀ wx,Sl wx (XG a c h) (c-h) (L.drop h)->Calls Tryz.prog 134 #[.slice (XG a c h) (L.length-h) (c-h)] wx fun e w'=>e=.returned (.tuple #[Z4 0,Z8 0,Z8 e0])/\wx=w':=by
      intro wx hs;have:=En (by rw[List.length_drop]; omega) hs (Xy hw h) h2;rw[List.length_drop] at this;exact this
    have h1:(e0 != 0)=true:=(by simpa using he);have h2':(e0 == 0)=false:=(by simpa using he);clear h2 he hk hkd hrd hg;go_enter Tryz.func128,Tryz.ntmps128;go_wp2_with fail;refine cS.mono ?_;rintro e w1 ⟨rfl,hb⟩;have hbl:=VH hbn hb;have K:=(Xf w _ _ _ _).below hb;have K':=Z9 K;obtain⟨k0,k1,k2,k3,kf⟩:=K;clear cS hbn hb hz;go_wp2_with fail;obtain⟨W,hW,oJ,QU,-,hzW⟩:=NW K'.out hbl (Nat.le_refl _) (Z8 (t / 8)) (Z8 kd) (Z4 0) (.slice none 0 0);rw[hW];clear k0 k1 k2 k3 kf hbl K' hW;have K2:=Z9 oJ;obtain⟨k0,k1,k2,k3,kf⟩:=oJ;refine(cR _ (ZK HS.out QU)).mono ?_;rintro e w2 ⟨rfl,rfl⟩;clear cR;go_wp2;clear k0 k1 k2 k3 kf;obtain⟨W3,hW3,wu,SN,-,-⟩:=NW K2.out QU (Nat.le_refl _) (Z8 0) (Z8 0) (Z4 0) (.slice none 0 0);rw[hW3];clear hW3;obtain⟨k0,k1,k2,k3,kf⟩:=wu;exact bodyPost_ret (v:=.tuple #[.agg #[Z8 0,Z8 0,Z4 0,.slice none 0 0],Z8 0,Z8 e0]) (by simp[results,Tryz.results128,go_sem,k0,k1,k2,k3]) rfl (U7 SN)
  have cR:∀ wx,Sl wx (XG a c h) (c-h) (L.drop h)->Calls Tryz.prog 134 #[.slice (XG a c h) (L.length-h) (c-h)] wx fun e w'=>e=.returned (.tuple #[Z4 (n:Int),Z8 (k:Int),Z8 0])/\wx=w':=by
    intro wx hs;have:=GH (by rw[List.length_drop]; omega) hs (Xy hw h) h2;rw[List.length_drop] at this;exact this
  rcases hkd with rfl | rfl
  · rw[Me hrd hg h2 hk];generalize t / 8=q at *
    clear h2 hk hrd hg;go_enter Tryz.func128,Tryz.ntmps128;go_wp2_with fail;refine cS.mono ?_;rintro e w1 ⟨rfl,hb⟩;have hbl:=VH hbn hb;have K:=(Xf w _ _ _ _).below hb;have K':=Z9 K;obtain⟨k0,k1,k2,k3,kf⟩:=K;clear cS hbn hb hz;go_wp2_with fail;obtain⟨W,hW,oJ,QU,-,hzW⟩:=NW K'.out hbl (Nat.le_refl _) (Z8 q) (Z8 0) (Z4 0) (.slice none 0 0);rw[hW];clear k0 k1 k2 k3 kf hbl K' hW;have K2:=Z9 oJ;obtain⟨k0,k1,k2,k3,kf⟩:=oJ;refine(cR _ (ZK HS.out QU)).mono ?_;rintro e w2 ⟨rfl,rfl⟩;clear cR;go_wp2;clear k0 k1 k2 k3 kf;obtain⟨W2,hW2,KE,KG⟩:=ai9 K2.out QU (Nat.le_refl _) (Z4 (n:Int));rw[hW2];obtain⟨W3,hW3,wu,SN,-,-⟩:=NW KE KG (Nat.le_refl _) (Z8 q) (Z8 0) (Z4 (n:Int)) (.slice none 0 0);rw[hW3];clear hW2 hW3 KE KG;obtain⟨k0,k1,k2,k3,kf⟩:=wu;exact bodyPost_ret (v:=.tuple #[.agg #[Z8 q,Z8 0,Z4 (n:Int),.slice none 0 0],Z8 ((h+k:Nat):Int),Z8 0]) (by simp[results,Tryz.results128,go_sem,k0,k1,k2,k3]) rfl ⟨_,rfl,Own.nil _ _,SN⟩
  have hsl2:∀ wx,(Instr.slice 23 (.slice a L.length c) (some (Z8 ((h:Int)+(k:Int)))) none none).run Tryz.prog wx=.ok (.slice (XG a c (h+k)) (L.length-(h+k)) (c-(h+k))) wx:=fun wx=>Uk .i64 a L.length c (h+k) wx hle2;by_cases hs:n<=(L.drop (h+k)).length
  · rw[QA hrd hg h2 hk hs];rw[List.length_drop] at hs;have HS2:=Z9 (Gz (QB hr (h+k) hc) n);have aJ7:=fun wx=>Em .u64 (XG a c (h+k)) (L.length-(h+k)) (c-(h+k)) n wx (by omega);have cC:∀ wx,Sl wx (XG a c (h+k)) (c-(h+k)) ((L.drop (h+k)).take n)->Calls Tryz.prog 135 #[.slice (XG a c (h+k)) n (c-(h+k))] wx fun e w'=>∃ v,e=.returned v/\Own w' wx.heap.size v ((L.drop (h+k)).take n)/\Below wx.heap.size wx w':=by
      intro wx hs';have:=clone_any (XG a c (h+k)) (c-(h+k)) ((L.drop (h+k)).take n) wx (by rw[List.length_take,List.length_drop]; omega) hs';rw[List.length_take,List.length_drop,Nat.min_eq_left hs] at this;exact this
    have hlB:((L.drop (h+k)).take n).length=n:=(by rw[List.length_take,List.length_drop]; omega);generalize (L.drop (h+k)).take n=B at *
    subst hlB;have hr1:L.length-(h+k)<=1000000:=(by omega);have hBL:B.length<=1000000:=(by omega);generalize L.length-(h+k)=r at *
    generalize t / 8=q at *
    clear h2 hk hrd hg;go_enter Tryz.func128,Tryz.ntmps128;go_wp2_with fail;refine cS.mono ?_;rintro e w1 ⟨rfl,hb⟩;have hbl:=VH hbn hb;have K:=(Xf w _ _ _ _).below hb;have K':=Z9 K;obtain⟨k0,k1,k2,k3,kf⟩:=K;clear cS hbn hb hz;go_wp2_with fail;obtain⟨W,hW,oJ,QU,-,hzW⟩:=NW K'.out hbl (Nat.le_refl _) (Z8 q) (Z8 2) (Z4 0) (.slice none 0 0);rw[hW];clear k0 k1 k2 k3 kf hbl K' hW;have K2:=Z9 oJ;obtain⟨k0,k1,k2,k3,kf⟩:=oJ;refine(cR _ (ZK HS.out QU)).mono ?_;rintro e w2 ⟨rfl,rfl⟩;clear cR;go_wp2_with fail;refine(cC _ (ZK HS2.out QU)).mono ?_;rintro e w3 ⟨v3,rfl,ho3,hb3⟩;have K3:=Z9 (K2.out.below hb3);have AX:=VH QU hb3;have hgl:=K2.out.lt;obtain⟨a3,c3,rfl,-,-⟩:=Own.sl ho3;clear k0 k1 k2 k3 kf cC hb3 K2;obtain⟨k0,k1,k2,k3,kf⟩:=K3.out;go_wp2;clear k0 k1 k2 k3 kf;obtain⟨W2,hW2,KE,KG,ho4⟩:=aj0 K3.out AX (Nat.le_refl _) (.slice a3 B.length c3);rw[hW2];obtain⟨W3,hW3,wu,SN,ho5,-⟩:=NW KE KG (Nat.le_refl _) (Z8 q) (Z8 2) (Z4 0) (.slice a3 B.length c3);rw[hW3];have hO:=(ho5 _ _ _ (ho4 _ _ _ ho3 hgl) hgl).base QU.size;clear hW2 hW3 KE KG;obtain⟨k0,k1,k2,k3,kf⟩:=wu;exact bodyPost_ret (v:=.tuple #[.agg #[Z8 q,Z8 2,Z4 0,.slice a3 B.length c3],Z8 ((h+k+B.length:Nat):Int),Z8 0]) (by simp[results,Tryz.results128,go_sem,k0,k1,k2,k3]) rfl ⟨_,rfl,hO,SN⟩
  · rw[Qz hrd hg h2 hk (by omega)];rw[List.length_drop] at hs;have hr1:L.length-(h+k)<=1000000:=(by omega);have hr2:L.length-(h+k)<n:=(by omega);generalize L.length-(h+k)=r at *
    generalize t / 8=q at *
    clear h2 hk hrd hg hs;go_enter Tryz.func128,Tryz.ntmps128;go_wp2_with fail;refine cS.mono ?_;rintro e w1 ⟨rfl,hb⟩;have hbl:=VH hbn hb;have K:=(Xf w _ _ _ _).below hb;have K':=Z9 K;obtain⟨k0,k1,k2,k3,kf⟩:=K;clear cS hbn hb hz;go_wp2_with fail;obtain⟨W,hW,oJ,QU,-,hzW⟩:=NW K'.out hbl (Nat.le_refl _) (Z8 q) (Z8 2) (Z4 0) (.slice none 0 0);rw[hW];clear k0 k1 k2 k3 kf hbl K' hW;have K2:=Z9 oJ;obtain⟨k0,k1,k2,k3,kf⟩:=oJ;refine(cR _ (ZK HS.out QU)).mono ?_;rintro e w2 ⟨rfl,rfl⟩;clear cR;go_wp2;clear k0 k1 k2 k3 kf;obtain⟨W3,hW3,wu,SN,-,-⟩:=NW K2.out QU (Nat.le_refl _) (Z8 0) (Z8 0) (Z4 0) (.slice none 0 0);rw[hW3];clear hW3;obtain⟨k0,k1,k2,k3,kf⟩:=wu;exact bodyPost_ret (v:=.tuple #[.agg #[Z8 0,Z8 0,Z4 0,.slice none 0 0],Z8 0,Z8 5]) (by simp[results,Tryz.results128,go_sem,k0,k1,k2,k3]) rfl (U7 SN)
def cellsOf (p:Ze×Value):List Value:=[Z8 p.1.num,Z8 p.1.kind,Z4 p.1.val,p.2]
def row4 (ps:List (Ze×Value)):List Value:=ps.flatMap cellsOf
theorem U9 (ps:List (Ze×Value)):∀ (i j:Nat) (p:Ze×Value),ps[i]?=some p->j<4->(row4 ps)[i*4+j]?=(cellsOf p)[j]?:=by
  induction ps with
  | nil=>intro i j p h; simp at h
  | cons q ps ih=>
    intro i j p h hj;have hr:row4 (q::ps)=cellsOf q++row4 ps:=rfl;have hq:(cellsOf q).length=4:=rfl;rw[hr];cases i with
    | zero=>
      simp only[List.getElem?_cons_zero,Option.some.injEq] at h;subst h;rw[List.getElem?_append_left (by omega)];simp
    | succ i=>
      rw[List.getElem?_cons_succ] at h;rw[List.getElem?_append_right (by omega),hq,show(i+1)*4+j-4=i*4+j by omega];exact ih i j p h hj
theorem IY (ps:List (Ze×Value))(p:Ze×Value):row4 (ps++[p])=row4 ps++cellsOf p:=by
  simp only[row4,List.flatMap_append,List.flatMap_cons,List.flatMap_nil,List.append_nil]
def UH (w:World)(B:Nat)(v:Value)(ps:List (Ze×Value)):Prop:=
  w.ownsRow B 111 4 v ps.length (row4 ps)/\∀ p,p∈ps->Own w B p.2 p.1.bytes
theorem UH.nil (w:World)(B:Nat):UH w B (.slice none 0 0) []:=⟨World.ownsRow_nil _ _ _ _,fun p h=>by simp at h⟩
theorem UH.below {w w':World}{B:Nat}{v:Value}{ps:List (Ze×Value)}(h:UH w B v ps)(hb:Below w.heap.size w w'):UH w' B v ps:=⟨own_below h.1 hb,fun p hp=>(h.2 p hp).below hb⟩
theorem UH.form {w:World}{B:Nat}{v:Value}{ps:List (Ze×Value)}(h:UH w B v ps):∃ a c,v=.slice a ps.length c/\ps.length<=c:=by
  rcases h.1.2 with⟨rfl,h0⟩ | ⟨g,cap,cur,rfl,_,_,hcap,_⟩
  · exact⟨none,0,by rw[h0],by omega⟩
  · exact⟨_,cap,rfl,hcap⟩
theorem UH.step {B:Nat}{w w2:World}{v v':Value}{ps:List (Ze×Value)}{p:Ze×Value}{o:Obj}(h:UH w B v ps)(hc:Own w B p.2 p.1.bytes)
    (hown:w2.ownsRow B 111 4 v' (ps.length+1) (row4 ps++cellsOf p)) (hgrow:(w.alloc o).grownBy w2 v.ownBlock):UH w2 B v' (ps++[p]):=by
  have keep:∀ (c:Value) (ys:List Int),Own w B c ys->Own w2 B c ys:=fun c ys hh=>(World.ownsRow.alloc hh o).kept hgrow (own_ne hh h.1 (by decide));refine⟨by rw[IY,List.length_append]; exact hown,fun q hq=>?_⟩;rcases List.mem_append.1 hq with hq | hq
  · exact keep _ _ (h.2 q hq)
  · obtain rfl:q=p:=(by simpa using hq);exact keep _ _ hc
theorem OG (w:World)(p:Ze×Value)(g:Nat)(hg:g=w.heap.size):∀ j u,(cellsOf p)[j]?=some u->(w.alloc (.cells #[Z8 p.1.num,Z8 p.1.kind,Z4 p.1.val,p.2] 111)).cell? ((⟨g,0,none⟩:Addr).add j)=some u:=by
  subst hg;intro j u hj;rw[Go.WideShapes.add_plain,cell_of_row _ w.heap.size (0+j) _ 111 (0,0) (heap_alloc_new w _),Nat.zero_add];simpa [cellsOf] using hj
theorem cells_one {w:World}{B:Nat}{p:Ze×Value}{L:List Int}(h:Own w B p.2 L):∀ u∈cellsOf p,u.oneCell'=true:=by
  obtain⟨a,c,he,-,-⟩:=h.sl;intro u hu;simp only[cellsOf,List.mem_cons,List.not_mem_nil,or_false,he] at hu;rcases hu with rfl | rfl | rfl | rfl <;> rfl
def yB (w:World)(R:List Ze×Int×Int)(e:Ending)(w':World):Prop:=
  ∃ v ps,e=.returned (.tuple #[v,Z8 R.2.1,Z8 R.2.2])/\ps.map Prod.fst=R.1/\UH w' w.heap.size v ps/\Below w.heap.size w w'
theorem QC {w w':World}{XO:List Ze×Int×Int}{i e0:Int}{j:Int}(h:XO=([],i,e0))(hj:j=i)(hb:Below w.heap.size w w'):yB w XO (.returned (.tuple #[.slice none 0 0,Z8 j,Z8 e0])) w':=by
  subst h hj;exact⟨_,[],rfl,rfl,UH.nil _ _,hb⟩
theorem Eo {w w':World}{XO:List Ze×Int×Int}{v:Value}{ps:List (Ze×Value)}(h:XO=(ps.map Prod.fst,0,0))(hr:UH w' w.heap.size v ps)(hb:Below w.heap.size w w'):yB w XO (.returned (.tuple #[v,Z8 0,Z8 0])) w':=by
  subst h;exact⟨_,ps,rfl,rfl,hr,hb⟩
theorem NI (a:Option Addr)(c:Nat)(L:List Int)(w:World)(hL:L.length<=1000000)(hr:Sl w a c L)(hw:∀ x,x∈L->W8 x)(hc:L.length<=c) :
    Calls Tryz.prog 116 #[.slice a L.length c] w (yB w (YN L)):=by
  obtain⟨i0,hi,hz0,hz1,hz2⟩:=info_parts info25;have HI:=Z9 hi;have HZ0:=Z9 hz0;have HZ1:=Z9 hz1;have HZ2:=Z9 hz2;have HD:Hid (YN L=Xg (L.length+1) [] 0 L):=rfl;have HR:=Z9 hr;have HW:=Z9 hw;generalize YN L=XO at *
  clear hi hz0 hz1 hz2 hr hw;go_enter Tryz.func116,Tryz.ntmps116;go_wp2_with fail;go_loopg [2,5] L.length (fun g s2 s5 wx=>∃ (i f m:Nat) (ra:Option Addr) (R:List Int) (ps:List (Ze×Value)),s5=.slice ra R.length m/\R.length<=m/\i+R.length<=L.length/\L.length<=i+R.length/\R.length<f/\ps.length<=1024/\Hid (Sl w ra m R)/\Hid (∀ x,x∈R->W8 x) /\
    Hid (XO=Xg f (ps.map Prod.fst) i R)/\Hid (UH wx w.heap.size s2 ps)/\Below w.heap.size w wx/\R.length=g)
  case atStart=>exact⟨0,L.length+1,c,a,L,[],rfl,hc,by omega,by omega,by omega,by simp,HR,HW,HD,UH.nil _ _,Below.refl _ _,rfl⟩
  case round=>
    obtain⟨i,f,m,ra,R,ps,rfl,hRm,hi1,hi2,hf,hps,hsl,oL,hd,hrow,hb,rfl⟩:=hrel;have hsz:=hb.size;obtain⟨va,vc,rfl,hvc⟩:=hrow.out.form;obtain⟨f',rfl⟩:∃ f',f=f'+1:=⟨f-1,by omega⟩;by_cases h0:R.length=0
    · have hfin:XO=(ps.map Prod.fst,0,0):=(by rw[hd.out,OI h0]);have hlt:¬ 0<R.length:=(by omega);have PU:=Z9 hfin;clear hd h0 hfin;go_wp2
      go_ret3
      exact Eo PU.out hrow.out hb
    · have hpos:0<R.length:=(by omega);by_cases h1:ps.length=1024
      · have hfin:XO=([],(i:Int),3):=(by rw[hd.out,PS h0 (by simp; omega)]);have hq:((ps.length:Int) == 1024)=true:=(by rw[h1]; rfl);have PU:=Z9 hfin;clear hd h0 hfin h1;go_wp2
        go_ret3
        exact QC PU.out (by omega) hb
      · have hq:((ps.length:Int) == 1024)=false:=(by rw[beq_eq_false_iff_ne]; omega);have cF:=fun wx hs=>AY ra m R wx (by omega) hs oL.out hRm;rcases GN R oL.out (by omega) with⟨e0,ho,he⟩ | ⟨x,hx,ho,hle,-⟩
        · have hfin:XO=([],(i:Int),e0):=(by rw[hd.out,OH h0 (by simp; omega) ho he]);rw[ho] at cF;have h3:(e0 != 0)=true:=(by simpa using he);have h4:(e0 == 0)=false:=(by simpa using he);have PU:=Z9 hfin;clear hd h0 h1 ho he hfin;go_wp2_with fail;refine(cF _ (ZK hsl.out hb)).mono ?_;rintro e w2 ⟨v2,rfl,ho2,hb2⟩;have hb3:=VH hb hb2;obtain⟨a2,c2,rfl,-,-⟩:=ho2.sl;clear cF hb2 ho2;go_wp2
          go_ret3
          exact QC PU.out (by omega) (hb3.alloc hb3.size _)
        · have hd2:XO=Xg f' ((ps++[(x,Value.slice none 0 0)]).map Prod.fst) (i+(Ye x).length) (R.drop (Ye x).length):=by
            rw[hd.out,SQ h0 (by simp; omega) ho];simp
          rw[ho] at cF;have aJ5:ps.length+1<=1024:=(by omega);have hs2:=VQ x;have hlB:=hx.2.2.2;have hsl2:=fun wx=>Uk .i64 ra R.length m (Ye x).length wx hle;have HS2:=Z9 (QB hsl.out (Ye x).length hRm);have HW2:=Z9 (Xy oL.out (Ye x).length);have hlen:(R.drop (Ye x).length).length=R.length-(Ye x).length:=List.length_drop;generalize R.drop (Ye x).length=R2 at *
          generalize (Ye x).length=sz at *
          have HLEN:=Z9 hlen;have HD2:=Z9 hd2;clear hd h0 h1 ho hd2 hlen;go_wp2_with fail;refine(cF _ (ZK hsl.out hb)).mono ?_;rintro e w2 ⟨v2,rfl,ho2,hb2⟩;have hb3:=VH hb hb2;have hrow2:=hrow.out.below hb2;obtain⟨a2,c2,rfl,-,-⟩:=ho2.sl;have iG:=Z9 (ho2.base hsz);have HR2:=Z9 hrow2;clear cF hb2 ho2 hrow hrow2;go_wp2_with (at_builtin; refine wpList_append_own _ rfl _ _ 106 rfl w.heap.size 111 i0 (.agg #[Z8 0,Z8 0,Z4 0,.slice none 0 0]) 4 48 Tryz.underlying106 HI.out HZ0.out HZ1.out HZ2.out rfl (by decide) (.slice va ps.length vc) ps.length (row4 ps) rfl ((HR2.out.1.alloc _).alloc _) ⟨w2.heap.size+1,0,none⟩ 1 1 (cellsOf (x,.slice a2 x.bytes.length c2)) rfl rfl (OG _ (x,.slice a2 x.bytes.length c2) _ (by simp)) (cells_one (p:=(x,.slice a2 x.bytes.length c2)) iG.out) ?c1 ?c2 ?c3 ?_)
          case c1=>unfold maxLen; omega
          case c2=>omega
          case c3=>have:=hb3.size; simp; omega
          intro v3 w3 hown3 hgrow3 _;have HR3:=Z9 (UH.step (p:=(x,Value.slice a2 x.bytes.length c2)) (HR2.out.below ((Below.refl _ _).alloc (Nat.le_refl _) _)) (iG.out.below ((Below.refl _ _).alloc (Nat.le_refl _) _)) hown3 hgrow3);have hb4:Below w.heap.size w w3:=((hb3.alloc hb3.size _).alloc (by have:=hb3.size; simp; omega) _).grown hgrow3 (by have:=hb3.size; simp; omega) (fun j hj=>(HR2.out.1.lt j hj).1);clear hown3 hgrow3 HR2 iG;have HD3:Hid (XO=Xg f' ((ps++[(x,Value.slice a2 x.bytes.length c2)]).map Prod.fst) (i+sz) R2):=Z9 (HD2.out.trans (by simp));have h5:=HLEN.out;have h6:R2.length<=m-sz:=(by omega);have h7:i+sz+R2.length<=L.length:=(by omega);have h8:L.length<=i+sz+R2.length:=(by omega);have h9:R2.length<f':=(by omega);have h10:R2.length<R.length:=(by omega);have h11:(ps++[(x,Value.slice a2 x.bytes.length c2)]).length<=1024:=(by rw[List.length_append,List.length_singleton]; omega);clear h5 HD2;go_wp2_with fail;go_roundg R2.length
          case measure=>exact h10
          case rel=>exact⟨i+sz,f',m-sz,XG ra m sz,R2,_,by rw[HLEN.out],h6,h7,h8,h9,h11,HS2,HW2,HD3,HR3,hb4,rfl⟩
theorem IQ {a:Option Addr}{c:Nat}{L:List Int}{w:World}(hL:L.length<=1000000)(hr:Sl w a c L)(hw:∀ x,x∈L->W8 x){e0:Int}(h:rd 0 0 L=(0,0,e0)) :
    Calls Tryz.prog 124 #[.slice a L.length c] w fun e w'=>e=.returned (.tuple #[Z4 0,Z8 0,Z8 e0])/\w=w':=by
  have:=Ej a c L w hL hr hw;rw[h] at this;exact this
theorem Ei {a:Option Addr}{c:Nat}{L:List Int}{w:World}(hL:L.length<=1000000)(hr:Sl w a c L)(hw:∀ x,x∈L->W8 x){t:Int}{k:Nat}(h:rd 0 0 L=(t,(k:Int),0)) :
    Calls Tryz.prog 124 #[.slice a L.length c] w fun e w'=>e=.returned (.tuple #[Z4 t,Z8 (k:Int),Z8 0])/\w=w':=by
  have:=Ej a c L w hL hr hw;rw[h] at this;exact this
theorem XF.far {w:World}{g:Nat}{c0 c1 c2 c3:Value}(h:XF w g c0 c1 c2 c3){b o:Nat}(hp:b≠g)(u:Value):XF (w.setCell ⟨b,o,none⟩ u) g c0 c1 c2 c3:=by
  obtain⟨h0,h1,h2,h3,hf⟩:=h;exact⟨(World.cell?_setCell_other _ _ _ _ (fun e=>hp (congrArg Addr.block e))).trans h0,(World.cell?_setCell_other _ _ _ _ (fun e=>hp (congrArg Addr.block e))).trans h1,(World.cell?_setCell_other _ _ _ _ (fun e=>hp (congrArg Addr.block e))).trans h2,(World.cell?_setCell_other _ _ _ _ (fun e=>hp (congrArg Addr.block e))).trans h3,fun o=>(World.frozen?_setCell _ _ _ _).trans (hf o)⟩
theorem iE (a:Option Addr)(c:Nat)(L:List Int)(w:World)(hL:L.length<=1000000)(hr:Sl w a c L)(hw:∀ x,x∈L->W8 x)(hc:L.length<=c) :
    Calls Tryz.prog 106 #[.slice a L.length c] w (iF w (U8 L)):=by
  have hbn:=(Below.refl w.heap.size w).alloc (Nat.le_refl _) (.cells #[Z8 0,Z8 0,Z4 0,.slice none 0 0] 111);rcases NV L hw with⟨e0,h,he⟩ | ⟨t,h,ht0,ht1,hrd,hh0,aJ6,hle,-,-,hcs⟩
  · rw[GL h he];have cS:=IQ hL (ZK hr hbn) hw h;have h1:(e0 != 0)=true:=(by simpa using he);have h2:(e0 == 0)=false:=(by simpa using he);clear h he;go_enter Tryz.func106,Tryz.ntmps106;go_wp2_with fail;refine cS.mono ?_;rintro e w1 ⟨rfl,rfl⟩;clear cS;go_wp2;exact bodyPost_ret (v:=.tuple #[.agg #[Z8 0,Z8 0,Z4 0,.slice none 0 0],Z8 0,Z8 e0]) (by simp[results,Tryz.results106,go_sem]) rfl (U7 hbn)
  have cS:=Ei hL (ZK hr hbn) hw hrd;rcases hcs with hb | ⟨hg,hcs⟩
  · rw[GK hrd hb];unfold WS at hb;have HG:=Z9 hb;clear hrd hb;go_enter Tryz.func106,Tryz.ntmps106;go_wp2_with fail;refine cS.mono ?_;rintro e w1 ⟨rfl,rfl⟩;clear cS;go_wp2_with fail;all_goals first
      | (exfalso; have hh:=HG.out; clear HG; simp at *; omega)
      | exact bodyPost_ret (v:=.tuple #[.agg #[Z8 0,Z8 0,Z4 0,.slice none 0 0],Z8 0,Z8 4]) (by simp[results,Tryz.results106,go_sem]) rfl (U7 hbn)
  obtain⟨kd,hk,hkd⟩:∃ kd,t % 8=kd/\(kd=0∨kd=2):=⟨_,rfl,hg.2.2⟩;have HS:=Z9 (QB hr h hc);have hsl:=fun wx=>Uk .i64 a L.length c h wx hle;have Jr:Below w.heap.size w ((w.alloc (.cells #[Z8 0,Z8 0,Z4 0,.slice none 0 0] 111)).alloc (.cells #[Z8 (t / 8),Z8 kd,Z4 0,.slice none 0 0] 111)):=hbn.alloc hbn.size _;obtain⟨g1,g2,-⟩:=id hg;rcases hcs with⟨e0,h2,he⟩ | ⟨n,k,hn,h2,hk0,hk10,hle2,-,-⟩
  · rw[GI hrd hg h2 he];have cR:∀ wx,Sl wx (XG a c h) (c-h) (L.drop h)->Calls Tryz.prog 124 #[.slice (XG a c h) (L.length-h) (c-h)] wx fun e w'=>e=.returned (.tuple #[Z4 0,Z8 0,Z8 e0])/\wx=w':=by
      intro wx hs;have:=IQ (by rw[List.length_drop]; omega) hs (Xy hw h) h2;rw[List.length_drop] at this;exact this
    have h1:(e0 != 0)=true:=(by simpa using he);have h2':(e0 == 0)=false:=(by simpa using he);clear h2 he hrd hg;rcases hkd with rfl | rfl
    all_goals
      go_enter Tryz.func106,Tryz.ntmps106;go_wp2_with fail;refine cS.mono ?_;rintro e w1 ⟨rfl,rfl⟩;clear cS;go_wp2_with fail;refine(cR _ (ZK HS.out Jr)).mono ?_;rintro e w2 ⟨rfl,rfl⟩;clear cR;go_wp2;exact bodyPost_ret (v:=.tuple #[.agg #[Z8 0,Z8 0,Z4 0,.slice none 0 0],Z8 0,Z8 e0]) (by simp[results,Tryz.results106,go_sem]) rfl (U7 Jr)
  have cR:∀ wx,Sl wx (XG a c h) (c-h) (L.drop h)->Calls Tryz.prog 124 #[.slice (XG a c h) (L.length-h) (c-h)] wx fun e w'=>e=.returned (.tuple #[Z4 (n:Int),Z8 (k:Int),Z8 0])/\wx=w':=by
    intro wx hs;have:=Ei (by rw[List.length_drop]; omega) hs (Xy hw h) h2;rw[List.length_drop] at this;exact this
  have hn0:0<=(n:Int):=by omega
  rcases hkd with rfl | rfl
  · rw[Me hrd hg h2 hk];clear h2 hrd hg;go_enter Tryz.func106,Tryz.ntmps106;go_wp2_with fail;refine cS.mono ?_;rintro e w1 ⟨rfl,rfl⟩;clear cS;go_wp2_with fail;refine(cR _ (ZK HS.out Jr)).mono ?_;rintro e w2 ⟨rfl,rfl⟩;clear cR;go_wp2;exact bodyPost_ret (v:=.tuple #[.agg #[Z8 (t / 8),Z8 0,Z4 (n:Int),.slice none 0 0],Z8 ((h+k:Nat):Int),Z8 0]) (by simp[results,Tryz.results106,go_sem]) rfl ⟨_,rfl,Own.nil _ _,((Below.refl _ _).alloc (Nat.le_refl _) _).alloc (by simp) _⟩
  by_cases hs:n<=(L.drop (h+k)).length
  · rw[QA hrd hg h2 hk hs];rw[List.length_drop] at hs;have hlB:((L.drop (h+k)).take n).length=n:=(by rw[List.length_take,List.length_drop]; omega);have HS2:=Z9 (Gz (QB hr (h+k) hc) n);have aJ7:∀ wx,(Instr.slice 23 (.slice a L.length c) (some (Z8 ((h:Int)+(k:Int)))) (some (Z8 ((h:Int)+(k:Int)+(n:Int)))) none).run Tryz.prog wx=.ok (.slice (XG a c (h+k)) n (c-(h+k))) wx:=fun wx=>by
      have:=AU .i64 .i64 a L.length c (h+k) (h+k+n) wx (by omega) (by omega);rw[Nat.add_sub_cancel_left] at this;exact this
    generalize (L.drop (h+k)).take n=B at *
    subst hlB;have hr2:(B.length:Int)<=(L.length:Int)-(h:Int)-(k:Int):=(by omega);have hBL:B.length<=1000000:=(by omega);obtain⟨i0,hi,hz0,hz1,hz2⟩:=info_parts info5;have HI:=Z9 hi;have HZ0:=Z9 hz0;have HZ1:=Z9 hz1;have HZ2:=Z9 hz2;clear hi hz0 hz1 hz2 h2 hrd hg;go_enter Tryz.func106,Tryz.ntmps106;go_wp2_with fail;refine cS.mono ?_;rintro e w1 ⟨rfl,rfl⟩;clear cS;go_wp2_with fail;refine(cR _ (ZK HS.out Jr)).mono ?_;rintro e w2 ⟨rfl,rfl⟩;clear cR;obtain⟨W2,hW2⟩:∃ W2,W2=(w.alloc (.cells #[Z8 0,Z8 0,Z4 0,.slice none 0 0] 111)).alloc (.cells #[Z8 (t / 8),Z8 2,Z4 0,.slice none 0 0] 111):=⟨_,rfl⟩;have K0:XF W2 w.heap.size (Z8 0) (Z8 0) (Z4 0) (.slice none 0 0):=(by rw[hW2]; exact(Xf w _ _ _ _).below ((Below.refl _ _).alloc (Nat.le_refl _) _));have K1:XF W2 (w.heap.size+1) (Z8 (t / 8)) (Z8 2) (Z4 0) (.slice none 0 0):=by
      rw[hW2];have:=Xf (w.alloc (.cells #[Z8 0,Z8 0,Z4 0,.slice none 0 0] 111)) (Z8 (t / 8)) (Z8 2) (Z4 0) (.slice none 0 0);simpa using this
    have hz:w.heap.size+2=W2.heap.size:=(by rw[hW2]; simp);rw[<- hW2] at Jr ⊢;have HZ:=Z9 hz;clear hW2 hz;have wV:=Z9 (ZK (ZK HS2.out Jr) ((Below.refl W2.heap.size W2).alloc (Nat.le_refl _) (.cells #[] 5)));go_wp2_with (at_builtin; refine Uj rfl _ _ 23 rfl W2.heap.size i0 Tryz.underlying23 HI.out HZ0.out HZ1.out HZ2.out _ 0 [] rfl (UC W2) (XG a c (h+k)) B.length (c-(h+k)) B rfl rfl wV.out ?c1 ?c2 ?_)
    case c1=>omega
    case c2=>simp
    intro v3 w3 az2 hgrow;have hb3:=Xa (w0:=W2) (Nat.le_refl _) (by simp) (UC W2) ((Below.refl _ W2).alloc (Nat.le_refl _) _) hgrow;have ho3:Own w3 W2.heap.size v3 B:=by
      show w3.ownsRow _ _ _ _ _ _;simpa using az2
    have K2:=Z9 (K0.below hb3);have K3:=Z9 (K1.below hb3);have AX:=VH Jr hb3;obtain⟨a3,c3,rfl,-,-⟩:=Own.sl ho3;clear K0 K1 hgrow az2 hb3 HS HS2 wV;obtain⟨k0,k1,k2,k3,kf⟩:=K3.out;obtain⟨j0,j1,j2,j3,jf⟩:=K2.out;go_wp2_with fail;clear k0 k1 k2 k3 kf j0 j1 j2 j3 jf;have hzz:=HZ.out;have K4:=K2.out.far (b:=w.heap.size+1) (o:=3) (by omega) (.slice a3 B.length c3);have ho4:Own (w3.setCell ⟨w.heap.size+1,3,none⟩ (.slice a3 B.length c3)) W2.heap.size (.slice a3 B.length c3) B:=ownsRow_setCell_below ho3 (a:=⟨w.heap.size+1,3,none⟩) (by show w.heap.size+1<_; omega) _;have az3:=AX.setCell (p:=⟨w.heap.size+1,3,none⟩) (by show w.heap.size<=w.heap.size+1; omega) (.slice a3 B.length c3);generalize w3.setCell ⟨w.heap.size+1,3,none⟩ (.slice a3 B.length c3)=w4 at *
    obtain⟨W3,hW3,wu,SN,ho5,-⟩:=NW K4 az3 (Nat.le_refl _) (Z8 (t / 8)) (Z8 2) (Z4 0) (.slice a3 B.length c3);rw[hW3];have hO:=(ho5 _ _ _ ho4 (by omega)).base Jr.size;clear hW3 K4 az3 K2 K3;obtain⟨k0,k1,k2,k3,-⟩:=wu;exact bodyPost_ret (v:=.tuple #[.agg #[Z8 (t / 8),Z8 2,Z4 0,.slice a3 B.length c3],Z8 ((h+k+B.length:Nat):Int),Z8 0]) (by simp[results,Tryz.results106,go_sem,k0,k1,k2,k3]) rfl ⟨_,rfl,hO,SN⟩
  · rw[Qz hrd hg h2 hk (by omega)];rw[List.length_drop] at hs;have hr2:(L.length:Int)-(h:Int)-(k:Int)<(n:Int):=(by omega);clear h2 hrd hg hs;go_enter Tryz.func106,Tryz.ntmps106;go_wp2_with fail;refine cS.mono ?_;rintro e w1 ⟨rfl,rfl⟩;clear cS;go_wp2_with fail;refine(cR _ (ZK HS.out Jr)).mono ?_;rintro e w2 ⟨rfl,rfl⟩;clear cR;go_wp2;exact bodyPost_ret (v:=.tuple #[.agg #[Z8 0,Z8 0,Z4 0,.slice none 0 0],Z8 0,Z8 5]) (by simp[results,Tryz.results106,go_sem]) rfl (U7 Jr)
theorem KX (a:Option Addr)(c:Nat)(L:List Int)(w:World)(hL:L.length<=1000000)(hr:Sl w a c L)(hw:∀ x,x∈L->W8 x)(hc:L.length<=c) :
    Calls Tryz.prog 78 #[.slice a L.length c] w (yB w (YN L)):=by
  obtain⟨i0,hi,hz0,hz1,hz2⟩:=info_parts info25;have HI:=Z9 hi;have HZ0:=Z9 hz0;have HZ1:=Z9 hz1;have HZ2:=Z9 hz2;have HD:Hid (YN L=Xg (L.length+1) [] 0 (L.drop 0)):=rfl;have HR:=Z9 hr;have HW:=Z9 hw;generalize YN L=XO at *
  clear hi hz0 hz1 hz2 hr hw;go_enter Tryz.func78,Tryz.ntmps78;go_wp2_with fail;go_loopg [5,6] L.length (fun g s2 s6 wx=>∃ (i f:Nat) (ps:List (Ze×Value)),s6=Z8 (i:Int)/\i<=L.length/\L.length-i<f/\ps.length<=1024 /\
    Hid (XO=Xg f (ps.map Prod.fst) i (L.drop i))/\Hid (UH wx w.heap.size s2 ps)/\Below w.heap.size w wx/\L.length-i=g)
  case atStart=>exact⟨0,L.length+1,[],rfl,by omega,by omega,by simp,HD,UH.nil _ _,Below.refl _ _,rfl⟩
  case round=>
    obtain⟨i,f,ps,rfl,hi,hf,hps,hd,hrow,hb,rfl⟩:=hrel;have hsz:=hb.size;obtain⟨va,vc,rfl,hvc⟩:=hrow.out.form;obtain⟨f',rfl⟩:∃ f',f=f'+1:=⟨f-1,by omega⟩;have hlR:(L.drop i).length=L.length-i:=List.length_drop;by_cases h0:L.length-i=0
    · have hfin:XO=(ps.map Prod.fst,0,0):=(by rw[hd.out,OI (by omega)]);have hlt:¬ i<L.length:=(by omega);have PU:=Z9 hfin;clear hd h0 hfin hlR;go_wp2
      go_ret3
      exact Eo PU.out hrow.out hb
    · have hpos:i<L.length:=(by omega);by_cases h1:ps.length=1024
      · have hfin:XO=([],(i:Int),3):=(by rw[hd.out,PS (by omega) (by simp; omega)]);have hq:(1024:Int)<=(ps.length:Int):=(by omega);have PU:=Z9 hfin;clear hd h0 hfin h1 hlR;go_wp2
        go_ret3
        exact QC PU.out rfl hb
      · have hq:¬ (1024:Int)<=(ps.length:Int):=(by omega);have aJ5:ps.length+1<=1024:=(by omega);have bg:=Z9 (QB HR.out i hc);have oL:=Z9 (Xy HW.out i);have cF:∀ wx,Sl wx (XG a c i) (c-i) (L.drop i)->Calls Tryz.prog 106 #[.slice (XG a c i) (L.length-i) (c-i)] wx (iF wx (U8 (L.drop i))):=fun wx hs=>by
          have:=iE (XG a c i) (c-i) (L.drop i) wx (by omega) hs oL.out (by omega);rw[hlR] at this;exact this
        have hsl:=fun wx=>Uk .i64 a L.length c i wx hi;rcases GN (L.drop i) oL.out (by omega) with⟨e0,ho,he⟩ | ⟨x,hx,ho,hle,-⟩
        · have hfin:XO=([],(i:Int),e0):=(by rw[hd.out,OH (by omega) (by simp; omega) ho he]);rw[ho] at cF;have h3:(e0 != 0)=true:=(by simpa using he);have h4:(e0 == 0)=false:=(by simpa using he);have PU:=Z9 hfin;clear hd h0 h1 ho he hfin hlR;go_wp2_with fail;refine(cF _ (ZK bg.out hb)).mono ?_;rintro e w2 ⟨v2,rfl,ho2,hb2⟩;have hb3:=VH hb hb2;obtain⟨a2,c2,rfl,-,-⟩:=ho2.sl;clear cF hb2 ho2;go_wp2
          go_ret3
          exact QC PU.out rfl (hb3.alloc hb3.size _)
        · have hd2:XO=Xg f' ((ps++[(x,Value.slice none 0 0)]).map Prod.fst) (i+(Ye x).length) (L.drop (i+(Ye x).length)):=by
            rw[hd.out,SQ (by omega) (by simp; omega) ho,List.drop_drop];simp
          rw[ho] at cF;have hs2:=VQ x;have hlB:=hx.2.2.2;rw[hlR] at hle;generalize (Ye x).length=sz at *
          have HD2:=Z9 hd2;clear hd h0 h1 ho hd2 hlR;go_wp2_with fail;refine(cF _ (ZK bg.out hb)).mono ?_;rintro e w2 ⟨v2,rfl,ho2,hb2⟩;have hb3:=VH hb hb2;have hrow2:=hrow.out.below hb2;obtain⟨a2,c2,rfl,-,-⟩:=ho2.sl;have iG:=Z9 (ho2.base hsz);have HR2:=Z9 hrow2;clear cF hb2 ho2 hrow hrow2;go_wp2_with (at_builtin; refine wpList_append_own _ rfl _ _ 106 rfl w.heap.size 111 i0 (.agg #[Z8 0,Z8 0,Z4 0,.slice none 0 0]) 4 48 Tryz.underlying106 HI.out HZ0.out HZ1.out HZ2.out rfl (by decide) (.slice va ps.length vc) ps.length (row4 ps) rfl ((HR2.out.1.alloc _).alloc _) ⟨w2.heap.size+1,0,none⟩ 1 1 (cellsOf (x,.slice a2 x.bytes.length c2)) rfl rfl (OG _ (x,.slice a2 x.bytes.length c2) _ (by simp)) (cells_one (p:=(x,.slice a2 x.bytes.length c2)) iG.out) ?c1 ?c2 ?c3 ?_)
          case c1=>unfold maxLen; omega
          case c2=>omega
          case c3=>have:=hb3.size; simp; omega
          intro v3 w3 hown3 hgrow3 _;have HR3:=Z9 (UH.step (p:=(x,Value.slice a2 x.bytes.length c2)) (HR2.out.below ((Below.refl _ _).alloc (Nat.le_refl _) _)) (iG.out.below ((Below.refl _ _).alloc (Nat.le_refl _) _)) hown3 hgrow3);have hb4:Below w.heap.size w w3:=((hb3.alloc hb3.size _).alloc (by have:=hb3.size; simp; omega) _).grown hgrow3 (by have:=hb3.size; simp; omega) (fun j hj=>(HR2.out.1.lt j hj).1);clear hown3 hgrow3 HR2 iG;have HD3:Hid (XO=Xg f' ((ps++[(x,Value.slice a2 x.bytes.length c2)]).map Prod.fst) (i+sz) (L.drop (i+sz))):=Z9 (HD2.out.trans (by simp));have h7:i+sz<=L.length:=(by omega);have h9:L.length-(i+sz)<f':=(by omega);have h10:L.length-(i+sz)<L.length-i:=(by omega);have h11:(ps++[(x,Value.slice a2 x.bytes.length c2)]).length<=1024:=(by rw[List.length_append,List.length_singleton]; omega);clear HD2;go_wp2_with fail;go_roundg (L.length-(i+sz))
          case measure=>exact h10
          case rel=>exact⟨i+sz,f',_,by go_num,h7,h9,h11,HD3,HR3,hb4,rfl⟩
theorem MZ {P:Program}{w:World}{ops:Array Oper}{o:Oper}{a:Act}{K:Act->World->Prop}{Q:Exit->Act->World->Prop}{E:Prop}(hgd:o.guard=none)(s x:Operand)(t:TypeId)
    (ho:o.op=.call { callee:=.builtin .append,args:=#[s,x],argTypes:=#[t,t] })
    (base:Nat) (i:TypeInfo) (ht:P.underlying t=some (.slice 5)) (hi:P.info? 5=some i) (hz:i.zero=some (.int .u8 0)) (hsize:i.size=1) (hby:i.bytes=1)
    (v:Value) (n:Nat) (xs:List Value) (hs:a.eval s=v) (hown:w.ownsRow base 5 1 v n xs)
    (ad:Option Addr) (m c:Nat) (L:List Int) (hx:a.eval x=.slice ad m c) (hm:L.length=m) (hr:Sl w ad c L) (hb:n+m<=140737488355328) (hbase:base<=w.heap.size)
    (h:∀ v' w',w'.ownsRow base 5 1 v' (n+m) (xs++L.map (Value.int .u8))->w.grownBy w' v.ownBlock->K (a.put o.dst v') w') :
    if Region.wanted o (yielded ops a.tmps)=true then Oper.wp P o a w K Q else E:=by
  have hw:Region.wanted o (yielded ops a.tmps)=true:=by simp[Region.wanted,hgd]
  rw[if_pos hw];subst hm;rcases hr with⟨rfl,rfl,rfl⟩ | ⟨y,rfl,hy⟩
  · have hrun:=run_append_owned_none (P:=P) (w:=w) base t o.type 5 i 1 ht hi v n xs hown;unfold Oper.wp;simp[execOp,ho,resolve,invoke,builtin,hs,hx,hrun,Result.andThen];exact h v w (by simpa using hown) (World.grownBy.refl w _)
  · refine wp_append_own w s x t ho base 5 i (.int .u8 0) 1 1 ht hi hz hsize hby rfl (by decide) v n xs hs hown y L.length c (L.map (Value.int .u8)) hx (by simp) ?_ (ints_oneCell _ _) (by unfold maxLen; omega) (by omega) hbase (fun v' w' h1 h2 _=>h v' w' h1 h2);intro j u hj;have hj':j<L.length:=by
      rcases Nat.lt_or_ge j L.length with h | h
      · exact h
      · rw[List.getElem?_eq_none (by simpa using h)] at hj; cases hj
    obtain⟨b,off,rfl,hc⟩:=hy j hj';rw[Go.WideShapes.add_plain,hc];rw[List.getElem?_map,List.getElem?_eq_getElem hj'] at hj;rw[List.getD_eq_getElem?_getD,List.getElem?_eq_getElem hj'];exact hj
theorem iq {w w':World}{B g o n:Nat}{v u:Value}{xs:List Value}(hgrow:w.grownBy w' v.ownBlock)(ho:w.ownsRow B 5 1 v n xs)(hg:g<B)(hc:w.cell? ⟨g,o,none⟩=some u):w'.cell? ⟨g,o,none⟩=some u:=by
  refine hgrow.cell hc (fun e=>?_);have:=(ho.lt _ e.symm).1;simp only at this;omega
theorem wB (a:Option Addr)(c:Nat)(L:List Int)(num kind val:Int)(b:Option Addr)(d:Nat)(B:List Int)(w:World)(hL:L.length<=900000)(hB:B.length<=1000000)(hr:Sl w a c L)(hs:Sl w b d B)(hv:uF num kind val B.length)(hw:W64 val) :
    Calls Tryz.prog 94 #[.slice a L.length c,.agg #[Z8 num,Z8 kind,Z4 val,.slice b B.length d]] w fun e w'=>∃ v,e=.returned (.tuple #[v,Z8 0])/\Own w' w.heap.size v (L++encI num kind val B)/\Below w.heap.size w w':=by
  have cV:=vY num kind val b B.length d;rw[IW hv] at cV;have hn0:=hv.1;have hn1:=hv.2.1;have htb:W64 (8*num+kind):=by unfold W64; unfold uF at hv; omega
  have cA:=fun w hr=>PO a c L (8*num+kind) w (by omega) hr htb;have hEl:=VP (8*num+kind);have hfin:L++encI num kind val B=((L++Enc (8*num+kind))++Enc (QT kind val B.length))++B:=by simp[encI]
  have hlen:(L++Enc (8*num+kind)).length<=1000000:=by rw[List.length_append]; omega
  have hx0:=iD w num kind val b B.length d;have hb0:=(Below.refl _ w).alloc (Nat.le_refl _) (.cells #[Z8 num,Z8 kind,Z4 val,.slice b B.length d] 111);rcases hv.2.2 with⟨rfl,hb⟩ | ⟨rfl,rfl⟩
  · obtain rfl:B=[]:=List.eq_nil_of_length_eq_zero hb;have ou:QT 0 val ([]:List Int).length=val:=rfl;rw[ou,List.append_nil] at hfin;have cB:=fun a c w hr=>PO a c (L++Enc (8*num+0)) val w hlen hr hw;have e8:8*num+0=num*8:=(by omega);rw[e8] at cA hEl hlen hfin;simp only[e8] at cB;clear e8 htb;generalize Enc (num*8)=E1 at *
    generalize L++E1=M at *
    generalize Enc val=E2 at *
    have PU:=Z9 hfin;have HR:=Z9 hr;clear hfin hr hs hv ou hb;go_enter Tryz.func94,Tryz.ntmps94;go_wp2_with fail;refine(cV _).mono ?_;rintro e w1 ⟨rfl,hb1⟩;have hx:=hx0.below hb1;have hb:=VH hb0 hb1;obtain⟨k0,k1,k2,k3⟩:=hx;have k1':w1.cell? ⟨w.heap.size,1,none⟩=some (Z8 0):=k1;have k2':w1.cell? ⟨w.heap.size,2,none⟩=some (Z4 val):=k2;have hlt:w.heap.size<w1.heap.size:=Box.lt ⟨k0,k1,k2,k3⟩;clear cV hb1 k1 k2 k3 hx0 hb0;go_wp2_with fail;refine(cA _ (ZK HR.out hb)).mono ?_;rintro e w2 ⟨v2,rfl,ho2,hb2⟩;have hb3:=VH hb hb2;have k2:=(hb2.cell (p:=⟨w.heap.size,2,none⟩) hlt).trans k2';have k1:=(hb2.cell (p:=⟨w.heap.size,1,none⟩) hlt).trans k1';obtain⟨a2,c2,rfl,s2,-⟩:=Own.sl ho2;clear k1' k2' k0 hb hb2 ho2 cA;go_wp2_with fail;refine(cB _ _ _ s2).mono ?_;rintro e w3 ⟨v3,rfl,ho3,hb4⟩;have hb5:=VH hb3 hb4;have HO:Hid (Own w3 w.heap.size v3 (L++encI num 0 val [])):=(by rw[PU.out]; exact Z9 (Own.base ho3 hb3.size));clear cB ho3 hb4 s2;go_wp2;go_ret2;exact⟨_,rfl,HO.out,hb5⟩
  · have ou:QT 2 0 B.length=(B.length:Int):=rfl;rw[ou] at hfin;have hwB:W64 (B.length:Int):=(by unfold W64; omega);have cB:=fun a c w hr=>PO a c (L++Enc (8*num+2)) (B.length:Int) w hlen hr hwB;have hE2:=VP (B.length:Int);have e8:8*num+2=num*8+2:=(by omega);rw[e8] at cA hEl hlen hfin;simp only[e8] at cB;clear e8 htb;generalize Enc (num*8+2)=E1 at *
    generalize L++E1=M at *
    have PU:=Z9 hfin;have HR:=Z9 hr;have HS:=Z9 hs;have hM2:(M++Enc (B.length:Int)).length<=2000000:=(by rw[List.length_append]; omega);generalize M++Enc (B.length:Int)=M2 at *
    obtain⟨i0,hi,hz0,hz1,hz2⟩:=info_parts info5;have HI:=Z9 hi;have HZ0:=Z9 hz0;have HZ1:=Z9 hz1;have HZ2:=Z9 hz2;clear hfin hr hs hv ou hi hz0 hz1 hz2 hE2;go_enter Tryz.func94,Tryz.ntmps94;go_wp2_with fail;refine(cV _).mono ?_;rintro e w1 ⟨rfl,hb1⟩;have hx:=hx0.below hb1;have hb:=VH hb0 hb1;obtain⟨k0,k1,k2,k3⟩:=hx;have k1':w1.cell? ⟨w.heap.size,1,none⟩=some (Z8 2):=k1;have k3':w1.cell? ⟨w.heap.size,3,none⟩=some (.slice b B.length d):=k3;have hlt:w.heap.size<w1.heap.size:=Box.lt ⟨k0,k1,k2,k3⟩;clear cV hb1 k1 k2 k3 hx0 hb0;go_wp2_with fail;refine(cA _ (ZK HR.out hb)).mono ?_;rintro e w2 ⟨v2,rfl,ho2,hb2⟩;have hb3:=VH hb hb2;have k3:=(hb2.cell (p:=⟨w.heap.size,3,none⟩) hlt).trans k3';have k1:=(hb2.cell (p:=⟨w.heap.size,1,none⟩) hlt).trans k1';have hlt2:w.heap.size<w2.heap.size:=Nat.lt_of_lt_of_le hlt hb2.size;obtain⟨a2,c2,rfl,s2,-⟩:=Own.sl ho2;clear k1' k3' k0 hb hb2 ho2 cA;go_wp2_with fail;have hc1:M2.length+B.length<=140737488355328:=(by omega);have hwr:IntKind.u64.wrap (B.length:Int)=(B.length:Int):=by rw[IntKind.wrap_u64]; omega
    go_region_held3 (fun wx=>wx.cell? ⟨w.heap.size,3,none⟩=some (.slice b B.length d)) (first | exact k6 | exact k5 | exact k3) (first
      | (go_at_call 115; refine(cB _ _ w2.drew s2).mono ?_; rintro e w5 ⟨v5,rfl,ho5,hb5⟩; have k5:=(hb5.cell (p:=⟨w.heap.size,3,none⟩) hlt2).trans k3; have hb6:=VH hb3.drew hb5)
      | (refine MZ rfl _ _ 23 rfl w2.heap.size i0 Tryz.underlying23 HI.out HZ0.out HZ1.out HZ2.out _ _ _ rfl ho5 b B.length d B rfl rfl (ZK HS.out hb6) hc1 hb5.size ?_; intro v6 w6 ho6 hgrow; have hb7:=Xa (w0:=w) hb3.size hb6.size ho5 hb6 hgrow; have k6:=iq hgrow ho5 hlt2 k5))
    have HO:Hid (Own w6 w.heap.size v6 (L++encI num 2 0 B)):=by
      rw[PU.out];show w6.ownsRow _ _ _ _ _ _;rw[List.length_append,List.map_append];exact own_base ho6 hb3.size
    clear cB ho6 hgrow hb6 s2 ho5 hb5;go_wp2;go_ret2;exact⟨_,rfl,HO.out,hb7⟩
def Fs (w:World)(a:Option Addr)(ps:List (Ze×Value)):Prop:=
  ∀ i p,ps[i]?=some p->∃ b off ba bc,a=some ⟨b,off,none⟩/\p.2=.slice ba p.1.bytes.length bc/\Sl w ba bc p.1.bytes/\Box w b (off+i*4) p.1.num p.1.kind p.1.val ba p.1.bytes.length bc
end Go.Proofs.YtnhlpahoomcgnaaGreat
