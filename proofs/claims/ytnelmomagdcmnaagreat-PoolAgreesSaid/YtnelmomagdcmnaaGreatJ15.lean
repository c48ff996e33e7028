/-
  Texts joined.
-/
import Derived.Test.YtnelmomagdcmnaaGreatJ14
import Derived.Shelf.SlSortCmp.NoneTotal
set_option maxRecDepth 100000
set_option maxHeartbeats 8000000
set_option linter.unusedSimpArgs false
set_option linter.unusedVariables false
namespace Go.Proofs.YtnelmomagdcmnaaGreat.Hp
attribute [local irreducible] wpList wpQuiet
open Go.RowKit
theorem zW.none {Bd g:Nat}{d:Hd}{f:Int->Option Int}{w:World}(I:zW Bd g d f w){k:Int}{M:List It}(hp:d.A.Perm M)(h:f k=none):Xh k M=false:=by rw[<- KO hp]; exact I.px.no.1 h
theorem zW.some {Bd g:Nat}{d:Hd}{f:Int->Option Int}{w:World}(I:zW Bd g d f w){k n:Int}(h:f k=some n):∃ i:Nat,n=i/\i<d.A.length/\(ita d.A i).1=k:=(I.px k n).1 h
theorem zW.ou {Bd g:Nat}{d:Hd}{f:Int->Option Int}{w V:World}(I:zW Bd g d f w){M:List It}(hp:d.A.Perm M)(hb:Below w.heap.size w V):yc Bd g d w M V:=⟨d,f,Gh.below I.mem hb I.hw,I.px,I.ho,hp⟩
theorem xX {Bd g:Nat}{d:Hd}{f:Int->Option Int}{w:World}(I:zW Bd g d f w){k:Int}{M:List It}(hp:d.A.Perm M)(hf:f k=none):Calls Tryz.prog 66 #[.pointer (some ⟨g,0,none⟩),.int .i64 k] w fun e w'=>e=.returned (.bool (U4 M k).2)/\yc Bd g d w (U4 M k).1 w':=by
 have hh:=I.none hp hf;rw[uM hh,show(U4 M k).2=false from hh];have HO:=Z8 (I.ou hp (Below.refl _ w));have HM:=Z8 (by
  have:=I.mem.mp.look k true;rw[hf] at this;exact this:(Instr.lookup 126 (.map (some d.B)) (.int .i64 k) true).run Tryz.prog w=.ok (.tuple #[.int .i64 0,.bool false]) w)
 have HL:=Z8 I.mem.ld1;clear I hp hf hh;go_enter Tryz.func66,Tryz.ntmps66;go_upto_region 1 with fail;refine wl<|ZB (.pointer (some ⟨g,0,none⟩)) (.bool false)<|wn ?_;simp only[pu];go_upto_region 3 with fail;refine wl<|YX (.pointer (some ⟨g,0,none⟩)) (.pointer (some ⟨g,0,none⟩)) (.pointer (some ⟨g,1,none⟩))<|ZC rfl ⟨g,1,none⟩ (.map (some d.B)) (HL.out)<|ZQ (.int .i64 k) <|
  Za (.tuple #[.int .i64 0,.bool false]) (Yv 126 (.tmp 14) (.tmp 15) true rfl (.map (some d.B)) (.int .i64 k) _ (by kernel_rfl) (by kernel_rfl) HM.out)<|Gg (.tuple #[.int .i64 0,.bool false]) (.int .i64 0) (.bool false) (.int .i64 0) (.bool false)<|wn ?_
 simp only[pu];go_upto_region 4 with fail;refine wl<|ZB (.bool false) (.bool true)<|wn ?_;simp only[pu];go_upto_region 5 with fail;refine wl<|ZQ (.bool false)<|wn ?_;simp only[pu];go_wp2_with fail;go_ret;exact⟨rfl,HO.out⟩
theorem BP {Bd g:Nat}{d:Hd}{f:Int->Option Int}{w:World}(I:zW Bd g d f w){k:Int}{M:List It}(hp:d.A.Perm M){i:Nat}(hf:f k=some (i:Int))(hi:i<d.A.length)(hk:(ita d.A i).1=k)(hc:d.A.length=i+1):Calls Tryz.prog 66 #[.pointer (some ⟨g,0,none⟩),.int .i64 k] w fun e w'=>e=.returned (.bool (U4 M k).2)/\yc Bd g d w (U4 M k).1 w':=by
 obtain⟨n,hn⟩:=ZR d.A.length;obtain⟨l,hl⟩:∃ l,n=l+1:=⟨n-1,by omega⟩;have hl2:l<d.A.length:=by omega
 have Hg:=I.ids;have hMn:(M.map (·.1)).Nodup:=(hp.map (·.1)).nodup_iff.1 I.ids;have OZ:=I.len;have hcut:=uK (A:=d.A) (i:=i) (n:=l) (by omega) hi;have hTM:=Lj (hcut.trans hp) hk hMn;have htk:(U4 M k).2=true:=VK.2 ⟨ita d.A i,hp.mem_iff.1 (OA hi),hk⟩;rw[htk];generalize (U4 M k).1=M2 at *
 have qR:Px (VR d.A i l) (exF d.A f i l):=I.px.sw (KL Hg) hi hl2;have hpx:=qR.cut (KL (((Qv d.A i l hi hl2).map (·.1)).nodup_iff.2 Hg)) (n:=l) (by rw[Yu]; omega);rw[Hf hi hl2,hk] at hpx;have xW:(((VR d.A i l).take l).map (·.1)).Nodup:=by
  have h1:=((Qv d.A i l hi hl2).map (·.1)).nodup_iff.2 Hg;exact h1.sublist ((List.take_sublist l _).map _)
 have hlen2:((VR d.A i l).take l).length=l:=by rw[List.length_take,Yu]; omega
 have HM:=Z8 (by
  have:=I.mem.mp.look k true;rw[hf] at this;exact this:(Instr.lookup 126 (.map (some d.B)) (.int .i64 k) true).run Tryz.prog w=.ok (.tuple #[.int .i64 i,.bool true]) w)
 have HL:=Z8 I.mem.ld1;have xu:=Z8 (by
  have:=I.mem.dV;rw[hn] at this;exact this:(Instr.loadAt 96 (.pointer (some ⟨g,0,none⟩))).run Tryz.prog w=.ok (.slice d.ka n d.kc) w)
 have hcap:=I.mem.cap;have HEX:=Z8 (ad8 (Bd:=Bd) I.mem I.hB I.hw hi hl2);have qV:=Z8 I.hB;have zU:=Z8 I.hw;have hho:HO ((VR d.A i l).take l):=by
  rw[show l=i by omega,lq _ _ hi];exact aa1 I.ho
 have HD:Hid (decide (i<l)=false):=Z8 dF;have hsl:(VR d.A i l).length=n:=by rw[Yu]; exact hn
 rw[hn] at hcap hl2 OZ;obtain⟨A1,hA1⟩:=ZR (VR d.A i l);obtain⟨f1,hf1⟩:=ZR (exF d.A f i l);clear qR;rw[hf1] at hpx HEX;rw[hA1] at hTM hpx xW hlen2 hsl HEX hho;have Oc:Hid (n-1=l):=Z8 (by omega);have HI:=Z8 hi;clear I hp hf hi hk hc Hg hMn hcut htk hf1 hl hn hA1;go_enter Tryz.func66,Tryz.ntmps66;go_upto_region 1 with fail;refine wl<|ZB (.pointer (some ⟨g,0,none⟩)) (.bool false)<|wn ?_;simp only[pu];go_upto_region 3 with fail;refine wl<|YX (.pointer (some ⟨g,0,none⟩)) (.pointer (some ⟨g,0,none⟩)) (.pointer (some ⟨g,1,none⟩))<|ZC rfl ⟨g,1,none⟩ (.map (some d.B)) (HL.out)<|ZQ (.int .i64 k) <|
  Za (.tuple #[.int .i64 i,.bool true]) (Yv 126 (.tmp 14) (.tmp 15) true rfl (.map (some d.B)) (.int .i64 k) _ (by kernel_rfl) (by kernel_rfl) HM.out)<|Gg (.tuple #[.int .i64 i,.bool true]) (.int .i64 i) (.bool true) (.int .i64 i) (.bool true)<|wn ?_
 simp only[pu];go_upto_region 4 with fail;refine wl<|ZB (.bool true) (.bool false)<|wn ?_;simp only[pu];go_upto_region 6 with fail;refine wl<|YX (.pointer (some ⟨g,0,none⟩)) (.pointer (some ⟨g,0,none⟩)) (.pointer (some ⟨g,0,none⟩))<|ZC rfl ⟨g,0,none⟩ (.slice d.ka n d.kc) (xu.out)<|ZQ (.int .i64 n) <|
  Za (.int .i64 l) (by rw[<- Oc.out]; exact qQ rfl n 1 (by omega) (by omega) (by kernel_rfl) (by kernel_rfl) _)<|ZQ (.int .i64 l)<|wn ?_
 simp only[pu];go_upto_region 7 with fail;refine wl<|YX (.pointer (some ⟨g,0,none⟩)) (.int .i64 i) (.int .i64 l)<|YD (.tuple #[]) (fun w9=>Gh Bd g d w { d with A:=A1 } f1 w9) HEX.out (fun V1 hV1=>?_);simp only[pu];apply wpList_nil;have Vf:=Z8 (by
  have:=hV1.mem.dV;rw[show({ d with A:=A1 }:Hd).A.length=n from hsl] at this;exact this:(Instr.loadAt 96 (.pointer (some ⟨g,0,none⟩))).run Tryz.prog V1=.ok (.slice d.ka n d.kc) V1)
 have HST:=Z8 (YT (ty:=96) (v:=.slice d.ka l d.kc) hV1.mem.bx (i:=0) (by simp[qW]) rfl (by kernel_rfl));have HG2:=Z8 (hV1.trans (Gh.cut (Bd:=Bd) hV1.mem (hV1.base qV.out zU.out) l (by show l<=A1.length; omega)));clear hV1;go_upto_region 8 with fail;refine wl<|Qc (.pointer (some ⟨g,0,none⟩)) (.pointer (some ⟨g,0,none⟩)) (.pointer (some ⟨g,0,none⟩)) (.pointer (some ⟨g,0,none⟩))<|ZC rfl ⟨g,0,none⟩ (.slice d.ka n d.kc) (Vf.out)<|ZQ (.int .i64 l) ?_;refine Nv (by kernel_rfl) (some 37) rfl 96 (.tmp 35) (.tmp 36) rfl (.slice d.ka n d.kc) (.int .i64 l) (.slice d.ka l d.kc) (by kernel_rfl) (by kernel_rfl) (Je d.ka n d.kc l _ (by omega)) ?_;refine ZB (.pointer (some ⟨g,0,none⟩)) (.pointer (some ⟨g,0,none⟩))<|Yb rfl (HST.out)<|wn ?_;simp only[pu];generalize V1.setCell ⟨g,0,none⟩ (.slice d.ka l d.kc)=V2 at *
 have HLM:=Z8 HG2.out.mem.ld1;clear HST Vf;go_upto_region 9 with fail;refine wl<|YX (.pointer (some ⟨g,0,none⟩)) (.pointer (some ⟨g,0,none⟩)) (.pointer (some ⟨g,1,none⟩))<|ZC rfl ⟨g,1,none⟩ (.map (some d.B)) (HLM.out)<|ZQ (.int .i64 k) ?_;simp only[pu];obtain⟨V3,hdl,hmf,-,hgr⟩:=HG2.out.mem.mp.del k _;refine Vd (by kernel_rfl) none rfl (.tuple #[]) V3 (NJ (.tmp 43) (.tmp 44) 126 3 rfl (.map (some d.B)) (.int .i64 k) (.tuple #[]) (by kernel_rfl) (by kernel_rfl) hdl) ?_;simp only[Act.put];apply wpList_nil;have Qg:=Z8 (HG2.out.trans (Gh.map HG2.out.mem (qV.out d.B ⟨1,rfl⟩) hmf hgr));clear hdl HLM hmf hgr HG2;have HO:Hid (yc Bd g d w M2 V3):=Z8 ⟨_,_,Qg.out,hpx,hho,hTM⟩;clear Qg hpx hho hTM;go_upto_region 10 with fail;refine wl<|ZB (.int .i64 i) (.int .i64 l)<|Za (.bool false) (by rw[<- HD.out]; exact Q9 rfl i l (by kernel_rfl) (by kernel_rfl) _)<|wn ?_;simp only[pu];go_upto_region 13 with fail;refine wl<|ZQ (.bool true)<|wn ?_;simp only[pu];go_wp2_with fail;go_ret;exact⟨rfl,HO.out⟩
theorem BN {Bd g:Nat}{d:Hd}{f:Int->Option Int}{w:World}(I:zW Bd g d f w){k:Int}{M:List It}(hp:d.A.Perm M){i:Nat}(hf:f k=some (i:Int))(hi:i<d.A.length)(hk:(ita d.A i).1=k)(hc:i+1<d.A.length):Calls Tryz.prog 66 #[.pointer (some ⟨g,0,none⟩),.int .i64 k] w fun e w'=>e=.returned (.bool (U4 M k).2)/\yc Bd g d w (U4 M k).1 w':=by
 obtain⟨n,hn⟩:=ZR d.A.length;obtain⟨l,hl⟩:∃ l,n=l+1:=⟨n-1,by omega⟩;have hl2:l<d.A.length:=by omega
 have Hg:=I.ids;have hMn:(M.map (·.1)).Nodup:=(hp.map (·.1)).nodup_iff.1 I.ids;have OZ:=I.len;have hcut:=uK (A:=d.A) (i:=i) (n:=l) (by omega) hi;have hTM:=Lj (hcut.trans hp) hk hMn;have htk:(U4 M k).2=true:=VK.2 ⟨ita d.A i,hp.mem_iff.1 (OA hi),hk⟩;rw[htk];generalize (U4 M k).1=M2 at *
 have qR:Px (VR d.A i l) (exF d.A f i l):=I.px.sw (KL Hg) hi hl2;have hpx:=qR.cut (KL (((Qv d.A i l hi hl2).map (·.1)).nodup_iff.2 Hg)) (n:=l) (by rw[Yu]; omega);rw[Hf hi hl2,hk] at hpx;have xW:(((VR d.A i l).take l).map (·.1)).Nodup:=by
  have h1:=((Qv d.A i l hi hl2).map (·.1)).nodup_iff.2 Hg;exact h1.sublist ((List.take_sublist l _).map _)
 have hlen2:((VR d.A i l).take l).length=l:=by rw[List.length_take,Yu]; omega
 have HM:=Z8 (by
  have:=I.mem.mp.look k true;rw[hf] at this;exact this:(Instr.lookup 126 (.map (some d.B)) (.int .i64 k) true).run Tryz.prog w=.ok (.tuple #[.int .i64 i,.bool true]) w)
 have HL:=Z8 I.mem.ld1;have xu:=Z8 (by
  have:=I.mem.dV;rw[hn] at this;exact this:(Instr.loadAt 96 (.pointer (some ⟨g,0,none⟩))).run Tryz.prog w=.ok (.slice d.ka n d.kc) w)
 have hcap:=I.mem.cap;have HEX:=Z8 (ad8 (Bd:=Bd) I.mem I.hB I.hw hi hl2);have qV:=Z8 I.hB;have zU:=Z8 I.hw;have hgen:=kX (A:=d.A) (i:=i) (n:=l) I.ho (by omega) (by omega);have HD:Hid (decide (i<l)=true):=Z8 dT;have hil:i<l:=by omega
 have hsl:(VR d.A i l).length=n:=by rw[Yu]; exact hn
 rw[hn] at hcap hl2 OZ;obtain⟨A1,hA1⟩:=ZR (VR d.A i l);obtain⟨f1,hf1⟩:=ZR (exF d.A f i l);clear qR;rw[hf1] at hpx HEX;rw[hA1] at hTM hpx xW hlen2 hsl HEX hgen;have Oc:Hid (n-1=l):=Z8 (by omega);have HI:=Z8 hi;clear I hp hf hi hk hc Hg hMn hcut htk hf1 hl hn hA1;go_enter Tryz.func66,Tryz.ntmps66;go_upto_region 1 with fail;refine wl<|ZB (.pointer (some ⟨g,0,none⟩)) (.bool false)<|wn ?_;simp only[pu];go_upto_region 3 with fail;refine wl<|YX (.pointer (some ⟨g,0,none⟩)) (.pointer (some ⟨g,0,none⟩)) (.pointer (some ⟨g,1,none⟩))<|ZC rfl ⟨g,1,none⟩ (.map (some d.B)) (HL.out)<|ZQ (.int .i64 k) <|
  Za (.tuple #[.int .i64 i,.bool true]) (Yv 126 (.tmp 14) (.tmp 15) true rfl (.map (some d.B)) (.int .i64 k) _ (by kernel_rfl) (by kernel_rfl) HM.out)<|Gg (.tuple #[.int .i64 i,.bool true]) (.int .i64 i) (.bool true) (.int .i64 i) (.bool true)<|wn ?_
 simp only[pu];go_upto_region 4 with fail;refine wl<|ZB (.bool true) (.bool false)<|wn ?_;simp only[pu];go_upto_region 6 with fail;refine wl<|YX (.pointer (some ⟨g,0,none⟩)) (.pointer (some ⟨g,0,none⟩)) (.pointer (some ⟨g,0,none⟩))<|ZC rfl ⟨g,0,none⟩ (.slice d.ka n d.kc) (xu.out)<|ZQ (.int .i64 n) <|
  Za (.int .i64 l) (by rw[<- Oc.out]; exact qQ rfl n 1 (by omega) (by omega) (by kernel_rfl) (by kernel_rfl) _)<|ZQ (.int .i64 l)<|wn ?_
 simp only[pu];go_upto_region 7 with fail;refine wl<|YX (.pointer (some ⟨g,0,none⟩)) (.int .i64 i) (.int .i64 l)<|YD (.tuple #[]) (fun w9=>Gh Bd g d w { d with A:=A1 } f1 w9) HEX.out (fun V1 hV1=>?_);simp only[pu];apply wpList_nil;have Vf:=Z8 (by
  have:=hV1.mem.dV;rw[show({ d with A:=A1 }:Hd).A.length=n from hsl] at this;exact this:(Instr.loadAt 96 (.pointer (some ⟨g,0,none⟩))).run Tryz.prog V1=.ok (.slice d.ka n d.kc) V1)
 have HST:=Z8 (YT (ty:=96) (v:=.slice d.ka l d.kc) hV1.mem.bx (i:=0) (by simp[qW]) rfl (by kernel_rfl));have HG2:=Z8 (hV1.trans (Gh.cut (Bd:=Bd) hV1.mem (hV1.base qV.out zU.out) l (by show l<=A1.length; omega)));clear hV1;go_upto_region 8 with fail;refine wl<|Qc (.pointer (some ⟨g,0,none⟩)) (.pointer (some ⟨g,0,none⟩)) (.pointer (some ⟨g,0,none⟩)) (.pointer (some ⟨g,0,none⟩))<|ZC rfl ⟨g,0,none⟩ (.slice d.ka n d.kc) (Vf.out)<|ZQ (.int .i64 l) ?_;refine Nv (by kernel_rfl) (some 37) rfl 96 (.tmp 35) (.tmp 36) rfl (.slice d.ka n d.kc) (.int .i64 l) (.slice d.ka l d.kc) (by kernel_rfl) (by kernel_rfl) (Je d.ka n d.kc l _ (by omega)) ?_;refine ZB (.pointer (some ⟨g,0,none⟩)) (.pointer (some ⟨g,0,none⟩))<|Yb rfl (HST.out)<|wn ?_;simp only[pu];generalize V1.setCell ⟨g,0,none⟩ (.slice d.ka l d.kc)=V2 at *
 have HLM:=Z8 HG2.out.mem.ld1;clear HST Vf;go_upto_region 9 with fail;refine wl<|YX (.pointer (some ⟨g,0,none⟩)) (.pointer (some ⟨g,0,none⟩)) (.pointer (some ⟨g,1,none⟩))<|ZC rfl ⟨g,1,none⟩ (.map (some d.B)) (HLM.out)<|ZQ (.int .i64 k) ?_;simp only[pu];obtain⟨V3,hdl,hmf,-,hgr⟩:=HG2.out.mem.mp.del k _;refine Vd (by kernel_rfl) none rfl (.tuple #[]) V3 (NJ (.tmp 43) (.tmp 44) 126 3 rfl (.map (some d.B)) (.int .i64 k) (.tuple #[]) (by kernel_rfl) (by kernel_rfl) hdl) ?_;simp only[Act.put];apply wpList_nil;have Qg:=Z8 (HG2.out.trans (Gh.map HG2.out.mem (qV.out d.B ⟨1,rfl⟩) hmf hgr));clear hdl HLM hmf hgr HG2;go_upto_region 10 with fail;refine wl<|ZB (.int .i64 i) (.int .i64 l)<|Za (.bool true) (by rw[<- HD.out]; exact Q9 rfl i l (by kernel_rfl) (by kernel_rfl) _)<|wn ?_;simp only[pu];have Gv:=Z8 (ao5 (Bd:=Bd) Qg.out.mem hpx (Qg.out.base qV.out zU.out) (Qg.out.size zU.out) xW (by show(A1.take l).length<=100000; omega) (by show i<(A1.take l).length; omega) hgen);have HND:=Z8 xW;have HL2:=Z8 hlen2;have HTM:=Z8 hTM;clear hpx hgen xW hlen2 hTM;go_upto_region 11 with fail;refine wl<|ZB (.pointer (some ⟨g,0,none⟩)) (.int .i64 i)<|YD (.tuple #[]) (fun w9=>∃ T,Hm Bd g { d with A:=A1.take l } V3 T w9/\uN T i) Gv.out (fun V4 MK=>?_);simp only[pu];apply wpList_nil;obtain⟨T,hT,hDn⟩:=MK;have hpm:=hT.pm;have hTl:T.length=l:=by rw[hpm.length_eq]; exact HL2.out
 have hTn:(T.map (·.1)).Nodup:=((hpm.map (·.1)).nodup_iff).2 HND.out;obtain⟨-,f4,hG4,hp4⟩:=hT;have zT:=Z8 (Qg.out.trans hG4);have HDN:=Z8 (ad9 (Bd:=Bd) zT.out.mem hp4 (zT.out.base qV.out zU.out) (zT.out.size zU.out) hTn (by show T.length<=100000; omega) (by show i<T.length; omega) hDn);have HPM:=Z8 hpm;clear hG4 hp4 hpm hTl hTn hDn Gv Qg;go_upto_region 12 with fail;refine wl<|ZB (.pointer (some ⟨g,0,none⟩)) (.int .i64 i)<|YD (.tuple #[]) (fun w9=>∃ T2,Hm Bd g { d with A:=T } V4 T2 w9/\HO T2) HDN.out (fun V5 hV5=>?_);simp only[pu];apply wpList_nil;obtain⟨T2,⟨hp2,f5,hG5,hx5⟩,hho⟩:=hV5;have HO:Hid (yc Bd g d w M2 V5):=Z8 ⟨_,_,zT.out.trans hG5,hx5,hho,(hp2.trans HPM.out).trans HTM.out⟩;clear hp2 hG5 hx5 hho HDN zT;go_upto_region 13 with fail;refine wl<|ZQ (.bool true)<|wn ?_;simp only[pu];go_wp2_with fail;go_ret;exact⟨rfl,HO.out⟩
theorem rF {Bd g:Nat}{d:Hd}{f:Int->Option Int}{w:World}(I:zW Bd g d f w)(k:Int){M:List It}(hp:d.A.Perm M):Calls Tryz.prog 66 #[.pointer (some ⟨g,0,none⟩),.int .i64 k] w fun e w'=>e=.returned (.bool (U4 M k).2)/\yc Bd g d w (U4 M k).1 w':=by
 cases hf:f k with
 | none=>exact xX I hp hf
 | some n=>
  obtain⟨i,rfl,hi,hk⟩:=I.some hf;by_cases hc:d.A.length=i+1
  ·exact BP I hp hf hi hk hc
  ·exact BN I hp hf hi hk (by omega)
theorem qX {Bd g q:Nat}{d:Hd}{f:Int->Option Int}{V:World}(h:Mh V g d f)(hB:∀ k,Sh g d k->Bd<=k)(hw:Bd<=V.heap.size){x:It}(hq:Cs V (some ⟨q,0,none⟩) (itc [x]))(hl:d.A.length<=100000):∃ u V2,
  (Builtin.append_ #[96,96] 96 #[.slice d.ka d.A.length d.kc,.slice (some ⟨q,0,none⟩) 1 1]).run Tryz.prog V=.ok u V2/\∃ V3,
  (Instr.storeAt 96 (Z7 g 0) u).run Tryz.prog V2=.ok () V3/\∃ a c,Gh Bd g d V { d with ka:=a,kc:=c,A:=d.A++[x] } f V3:=by
 obtain⟨u,V2,hap,hO,hg,ha⟩:=Hr (P:=Tryz.prog) (t:=96) Tryz.underlying96 rD (by kernel_rfl) (by omega) (by omega) h.rk q (itc [x]) hq rfl (Hl _) (Nat.zero_le _) hl;rw[<- jG] at hO;have hgB:=(Gh.grown h hB hw (Below.refl _ _) 2 (fun k e=>Kq e) hg).2 0 g (by omega) rfl;obtain⟨a,c,rfl,hG⟩:=Gh.push h hB hw (Below.refl _ _) hO hg ha;exact⟨_,V2,hap,_,YT (i:=0) (ty:=96) (hgB.trans h.bx:Bx V2 g (qW d) 128) (by simp[qW]) rfl (by kernel_rfl),a,c,hG⟩
structure PW (x:It)(C D:World->Prop)(St:Value->World->Prop)(b4 b5 b6 b7 b10:Bool)(x32 x33:Value)(V:World):Prop where
 c0:b7=false->C V
 c1:b6=true->b7=false->∃ q,x32=.slice (some ⟨q,0,none⟩) 1 1/\Cs V (some ⟨q,0,none⟩) (itc [x])
 c2:b7=true->b10=false->St x33 V
 c3:b10=true->D V
 d1:b7=true->b4=true/\b6=true
 d2:b10=true->b7=true
 d3:b6=true->b5=true
section
variable {x : It} {C D : World -> Prop} {St : Value -> World -> Prop} {b4 b5 b6 b7 b10 : Bool} {x32 x33 u : Value} {V V2 : World}
theorem PW.start (h:C V):PW x C D St false false false false false undef undef V:=⟨fun _=>h,fun h=>(by cases h),fun h=>(by cases h),fun h=>(by cases h),fun h=>(by cases h),fun h=>(by cases h),fun h=>(by cases h)⟩
theorem PW.n7a (h:PW x C D St false b5 b6 b7 b10 x32 x33 V):b7=false:=by cases b7; rfl; exact absurd (h.d1 rfl).1 (by decide)
theorem PW.n7b (h:PW x C D St b4 b5 false b7 b10 x32 x33 V):b7=false:=by cases b7; rfl; exact absurd (h.d1 rfl).2 (by decide)
theorem PW.n6 (h:PW x C D St b4 false b6 b7 b10 x32 x33 V):b6=false:=by cases b6; rfl; exact absurd (h.d3 rfl) (by decide)
theorem PW.n10 (h:PW x C D St b4 b5 b6 false b10 x32 x33 V):b10=false:=by cases b10; rfl; exact absurd (h.d2 rfl) (by decide)
theorem PW.m4 (h:PW x C D St b4 b5 b6 b7 b10 x32 x33 V):PW x C D St true b5 b6 b7 b10 x32 x33 V:=⟨h.c0,h.c1,h.c2,h.c3,fun k=>⟨rfl,(h.d1 k).2⟩,h.d2,h.d3⟩
theorem PW.m5 (h:PW x C D St b4 b5 b6 b7 b10 x32 x33 V):PW x C D St b4 true b6 b7 b10 x32 x33 V:=⟨h.c0,h.c1,h.c2,h.c3,h.d1,h.d2,fun _=>rfl⟩
theorem PW.m6 (h:PW x C D St b4 true false false false x32 x33 V){q:Nat}(hC:C V2)(hq:Cs V2 (some ⟨q,0,none⟩) (itc [x])):PW x C D St b4 true true false false (.slice (some ⟨q,0,none⟩) 1 1) x33 V2:=
 ⟨fun _=>hC,fun _ _=>⟨q,rfl,hq⟩,fun h=>(by cases h),fun h=>(by cases h),fun h=>(by cases h),fun h=>(by cases h),fun _=>rfl⟩
theorem PW.m7 (h:PW x C D St true b5 true false false x32 x33 V)(hS:St u V2):PW x C D St true b5 true true false x32 u V2:=
 ⟨fun h=>(by cases h),fun _ h=>(by cases h),fun _ _=>hS,fun h=>(by cases h),fun _=>⟨rfl,rfl⟩,fun h=>(by cases h),h.d3⟩
theorem PW.m10 (h:PW x C D St b4 b5 b6 true b10 x32 x33 V)(hD:D V2):PW x C D St b4 b5 b6 true true x32 x33 V2:=
 ⟨fun h=>(by cases h),fun _ h=>(by cases h),fun _ h=>(by cases h),fun _=>hD,h.d1,fun _=>rfl,h.d3⟩
end
theorem jF {Bd g:Nat}{d:Hd}{f:Int->Option Int}{w:World}(I:zW Bd g d f w)(x:It){M:List It}(hp:d.A.Perm M){n:Int}(hf:f x.1=some n):Calls Tryz.prog 60 #[Z7 g 0,.agg (Ym x)] w fun e w'=>e=.returned (.bool (Vq M x).2)/\yc Bd g d w (Vq M x).1 w':=by
 have hh:Xh x.1 M=true:=by
  obtain⟨i,-,hi,hk⟩:=I.some hf;exact VK.2 ⟨_,hp.mem_iff.1 (OA hi),hk⟩
 have e1:Vq M x=(M,false):=by unfold Vq; rw[hh]; rfl
 rw[e1];have HO:=Z8 (fun V (hV:Below w.heap.size w V)=>I.ou hp hV);obtain⟨hb,hX⟩:=(⟨Gd.alloc w _,heap_alloc_last w _⟩:Gd w (w.alloc (.cells (Ym x) 99))/\Bx (w.alloc (.cells (Ym x) 99)) w.heap.size (Ym x) 99);have DT:=Z8 (fun U (hU:Below w.heap.size w U)=>(I.mem.below hU).ld1);have HM:=Z8 (fun U (hU:Below w.heap.size w U)=>(by
  have:=(I.mem.below hU).mp.look x.1 true;rw[hf] at this;exact this:(Instr.lookup 126 (.map (some d.B)) (Z9 x.1) true).run Tryz.prog U=.ok (.tuple #[Z9 n,ZX]) U))
 clear I hp hf hh e1;go_enter Tryz.func60,Tryz.ntmps60;go_upto_region 1 with fail;change Code.wp _ _ _ _ (w.alloc (.cells (Ym x) 99));generalize w.alloc (.cells (Ym x) 99)=W at *
 obtain⟨g0,hg0⟩:=ZR w.heap.size;rw[hg0] at hX;have Gw:=Z8 hg0;have HB0:=Z8 hb.1;clear hb;simp only[hg0];clear hg0;refine wl<|ZB (Z7 g 0) ZY<|wn ?_;simp only[pu];go_upto_region 3 with fail;refine ZT (C:=fun U=>Below w.heap.size w U/\Bx U g0 (Ym x) 99) (by kernel_rfl) (by kernel_rfl) (⟨HB0.out.drew,hX⟩) ?_;refine gy (Z7 g 0)<|gy (Z7 g 0)<|gy (Z7 g 1)<|Zx rfl ⟨g,1,none⟩ (.map (some d.B)) (fun U hU=>DT.out U hU.1)<|gy (Z7 g0 0)<|Zx rfl ⟨g0,0,none⟩ (Z9 x.1) (fun U hU=>EC hU.2) <|
   Ze (.tuple #[Z9 n,ZX]) (fun U hU=>Yv 126 (.tmp 14) (.tmp 16) true rfl (.map (some d.B)) (Z9 x.1) _ (by kernel_rfl) (by kernel_rfl) (HM.out U hU.1))<|gy (.tuple #[Z9 n,ZX])<|gy (Z9 n)<|gy ZX<|gy (Z9 n) <|
   gy ZX ?_
 simp only[pu];apply wpQuiet_nil;intro V hV;have HV:=Z8 hV;clear hV HM DT hX;go_upto_region 4 with fail;refine wl<|ZQ ZX<|wn ?_;simp only[pu];go_upto_region 5 with fail;refine wl<|ZQ ZY<|wn ?_;simp only[pu];have HE:=Z8 (HO.out V HV.out.1);clear HO HV;go_wp2_with fail;go_ret;exact⟨rfl,HE.out⟩
theorem jE {Bd g:Nat}{d:Hd}{f:Int->Option Int}{w:World}(I:zW Bd g d f w)(x:It){M:List It}(hp:d.A.Perm M)(hf:f x.1=none)(hln:d.A.length+1<=90000):Calls Tryz.prog 60 #[Z7 g 0,.agg (Ym x)] w fun e w'=>e=.returned (.bool (Vq M x).2)/\yc Bd g d w (Vq M x).1 w':=by
 have hh:Xh x.1 M=false:=I.none hp hf;have hhA:Xh x.1 d.A=false:=by rw[KO hp]; exact hh
 rw[show(Vq M x).2=true by rw[kW,hh]; rfl];have hPM:(d.A++[x]).Perm (Vq M x).1:=(List.perm_append_comm (l₁:=d.A) (l₂:=[x])).trans ((List.Perm.cons x hp).trans (Ll hh).symm);generalize (Vq M x).1=M2 at *
 have hpx:=I.px.app hhA;have hgen:=kZ I.ho x;have hnd:((d.A++[x]).map (·.1)).Nodup:=by
  rw[List.map_append,List.nodup_append];refine⟨I.ids,by simp,fun a ha b hb e=>?_⟩;obtain⟨y,hy,rfl⟩:=List.mem_map.1 ha;simp only[List.map_cons,List.map_nil,List.mem_singleton] at hb;exact UH.1 hhA y hy (e.trans hb)
 have hlA:(d.A++[x]).length=d.A.length+1:=by simp
 obtain⟨hb,hX⟩:=(⟨Gd.alloc w _,heap_alloc_last w _⟩:Gd w (w.alloc (.cells (Ym x) 99))/\Bx (w.alloc (.cells (Ym x) 99)) w.heap.size (Ym x) 99);have DT:=Z8 (fun U (hU:Below w.heap.size w U)=>(I.mem.below hU).ld1);have HM:=Z8 (fun U (hU:Below w.heap.size w U)=>(by
  have:=(I.mem.below hU).mp.look x.1 true;rw[hf] at this;exact this:(Instr.lookup 126 (.map (some d.B)) (Z9 x.1) true).run Tryz.prog U=.ok (.tuple #[Z9 0,ZY]) U))
 have HGH:=Z8 (fun U (hU:Below w.heap.size w U)=>(Gh.below I.mem hU I.hw:Gh Bd g d w d f U));have HNI:=Z8 (Gh.ao3 I.mem (Nat.le_refl _));have qV:=Z8 I.hB;have zU:=Z8 I.hw;obtain⟨n,hn⟩:=ZR d.A.length;have HN:=Z8 hn;rw[hn] at hpx hgen hlA hln;have HPX:=Z8 hpx;have Xm:=Z8 hgen;have HND:=Z8 hnd;have HLA:=Z8 hlA;have HPM:=Z8 hPM;clear I hp hf hh hhA hPM hpx hgen hnd hlA hn;go_enter Tryz.func60,Tryz.ntmps60;go_upto_region 1 with fail;change Code.wp _ _ _ _ (w.alloc (.cells (Ym x) 99));generalize w.alloc (.cells (Ym x) 99)=W at *
 obtain⟨g0,hg0⟩:=ZR w.heap.size;rw[hg0] at hX;have Gw:=Z8 hg0;have HB0:=Z8 hb.1;clear hb;simp only[hg0];clear hg0;refine wl<|ZB (Z7 g 0) ZY<|wn ?_;simp only[pu];go_upto_region 3 with fail;refine ZT (C:=fun U=>Below w.heap.size w U/\Bx U g0 (Ym x) 99) (by kernel_rfl) (by kernel_rfl) (⟨HB0.out.drew,hX⟩) ?_;refine gy (Z7 g 0)<|gy (Z7 g 0)<|gy (Z7 g 1)<|Zx rfl ⟨g,1,none⟩ (.map (some d.B)) (fun U hU=>DT.out U hU.1)<|gy (Z7 g0 0)<|Zx rfl ⟨g0,0,none⟩ (Z9 x.1) (fun U hU=>EC hU.2) <|
   Ze (.tuple #[Z9 0,ZY]) (fun U hU=>Yv 126 (.tmp 14) (.tmp 16) true rfl (.map (some d.B)) (Z9 x.1) _ (by kernel_rfl) (by kernel_rfl) (HM.out U hU.1))<|gy (.tuple #[Z9 0,ZY])<|gy (Z9 0)<|gy ZY<|gy (Z9 0) <|
   gy ZY ?_
 simp only[pu];apply wpQuiet_nil;intro V hV;have HV:=Z8 hV;clear hV HM DT hX;go_upto_region 4 with fail;refine wl<|ZQ ZY<|wn ?_;simp only[pu];have Oc:=Z8 (by
  have:=(HGH.out V HV.out.1).mem.dV;rw[HN.out] at this;exact this:(Instr.loadAt 96 (Z7 g 0)).run Tryz.prog V=.ok (.slice d.ka n d.kc) V)
 go_upto_region 6 with fail;refine wl<|YX (Z7 g 0) (Z7 g 0) (Z7 g 0)<|ZC rfl ⟨g,0,none⟩ (.slice d.ka n d.kc) (Oc.out)<|ZB (Z9 n) (Z9 n)<|wn ?_;simp only[pu];have hC0:(fun U=>Gh Bd g d w d f U/\Bx U g0 (Ym x) 99) V:=⟨HGH.out V HV.out.1,HV.out.2⟩;have av6:Hid (¬ Sh g d g0):=Z8 (Gw.out ▸ HNI.out);have xu:=Z8 (fun U (hU:(fun U=>Gh Bd g d w d f U/\Bx U g0 (Ym x) 99) U)=>(by
  have:=hU.1.mem.dV;rw[HN.out] at this;exact this:(Instr.loadAt 96 (Z7 g 0)).run Tryz.prog U=.ok (.slice d.ka n d.kc) U))
 have HCA:=Z8 (fun U (hU:(fun U=>Gh Bd g d w d f U/\Bx U g0 (Ym x) 99) U)=>(⟨hU.1.trans (Gh.below hU.1.mem ((Below.refl _ U).alloc (Nat.le_refl _) _) (hU.1.size zU.out)),hU.2.below hU.2.lt ((Below.refl _ U).alloc (Nat.le_refl _) _)⟩:(fun U=>Gh Bd g d w d f U/\Bx U g0 (Ym x) 99) (U.alloc (.cells (Ym x) 99))));have HAP:=Z8 (fun U (hU:(fun U=>Gh Bd g d w d f U/\Bx U g0 (Ym x) 99) U) q (hq:Cs U (some ⟨q,0,none⟩) (itc [x]))=>(by
  obtain⟨u,U2,hap,U3,hst,a,c,hG⟩:=qX hU.1.mem (hU.1.base qV.out zU.out) (hU.1.size zU.out) hq (by rw[HN.out]; omega);rw[HN.out] at hap;exact⟨u,U2,hap,U3,hst,⟨a,c,hU.1.trans hG⟩,Bx.U7 hU.2 hG.but av6.out⟩:∃ u U2,(Builtin.append_ #[96,96] 96 #[.slice d.ka n d.kc,.slice (some ⟨q,0,none⟩) 1 1]).run Tryz.prog U=.ok u U2/\(fun u U=>∃ U3,(Instr.storeAt 96 (Z7 g 0) u).run Tryz.prog U=.ok () U3/\(fun U=>(∃ a c,Gh Bd g d w { d with ka:=a,kc:=c,A:=d.A++[x] } f U)/\Bx U g0 (Ym x) 99) U3) u U2))
 clear HV HGH Oc HNI;go_upto_region 7 with fail;have h0:PW x (fun U=>Gh Bd g d w d f U/\Bx U g0 (Ym x) 99) (fun U=>(∃ a c,Gh Bd g d w { d with ka:=a,kc:=c,A:=d.A++[x] } f U)/\Bx U g0 (Ym x) 99) (fun u U=>∃ U3,(Instr.storeAt 96 (Z7 g 0) u).run Tryz.prog U=.ok () U3/\(fun U=>(∃ a c,Gh Bd g d w { d with ka:=a,kc:=c,A:=d.A++[x] } f U)/\Bx U g0 (Ym x) 99) U3) false false false false false undef undef V.drew:=PW.start ⟨hC0.1.drew,hC0.2⟩;clear hC0;refine ZK (fun listed ZH V=>∃ b0 b1 b2 b3 b4 b5 b6 b7 b8 b9 b10:Bool,∃ x32 x33:Value,listed=#[b0,b1,b2,b3,b4,b5,b6,b7,b8,b9,b10]/\ZH={ tmps:=#[Z7 g 0,.agg (Ym x),undef,Z7 g0 0,ZY,Z9 0,ZY,Z9 n,Z7 g 0,ZY,.tuple #[Z9 0,ZY],Z7 g 0,Z7 g 0,Z7 g 1,.map (some d.B),Z7 g0 0,Z9 x.1,.tuple #[Z9 0,ZY],Z9 0,ZY,ZY,Z7 g 0,Z7 g 0,Z7 g 0,.slice d.ka n d.kc,Z9 n,(cond b0 (Z7 g 0) undef),(cond b1 (Z7 g 0) undef),(cond b2 (Z7 g 0) undef),(cond b3 (Z7 g 0) undef),(cond b4 (.slice d.ka n d.kc) undef),(cond b5 (.agg (Ym x)) undef),x32,x33,(cond b8 (Z7 g 0) undef),(cond b9 (Z7 g 0) undef),undef,undef,undef,undef,undef,undef,undef,undef,undef,undef],defers:=[] }/\PW x (fun U=>Gh Bd g d w d f U/\Bx U g0 (Ym x) 99) (fun U=>(∃ a c,Gh Bd g d w { d with ka:=a,kc:=c,A:=d.A++[x] } f U)/\Bx U g0 (Ym x) 99) (fun u U=>∃ U3,(Instr.storeAt 96 (Z7 g 0) u).run Tryz.prog U=.ok () U3/\(fun U=>(∃ a c,Gh Bd g d w { d with ka:=a,kc:=c,A:=d.A++[x] } f U)/\Bx U g0 (Ym x) 99) U3) b4 b5 b6 b7 b10 x32 x33 V) (by kernel_rfl) (by kernel_rfl) ?_ ?_ ?_
 ·exact⟨_,_,_,_,_,_,_,_,_,_,_,_,_,rfl,rfl,h0⟩
 ·intro i9 listed ZH V hi9 hr hJ;obtain⟨b0,b1,b2,b3,b4,b5,b6,b7,b8,b9,b10,x32,x33,rfl,rfl,hF⟩:=hJ;have hi2:i9<11:=hi9;have hi3:i9=0∨i9=1∨i9=2∨i9=3∨i9=4∨i9=5∨i9=6∨i9=7∨i9=8∨i9=9∨i9=10:=by omega
  rcases hi3 with rfl | rfl | rfl | rfl | rfl | rfl | rfl | rfl | rfl | rfl | rfl
  ·obtain rfl:b0=false:=Z5 hr;refine ZW rfl (by kernel_rfl) (some 26) rfl (Z7 g 0) V (by kernel_rfl) ?_;exact⟨_,_,_,_,_,_,_,_,_,_,_,_,_,rfl,rfl,hF⟩
  ·obtain rfl:b1=false:=Z5 hr;refine ZW rfl (by kernel_rfl) (some 27) rfl (Z7 g 0) V (by kernel_rfl) ?_;exact⟨_,_,_,_,_,_,_,_,_,_,_,_,_,rfl,rfl,hF⟩
  ·obtain rfl:b2=false:=Z5 hr;obtain rfl:b1=true:=Z4 hr 1;refine ZW rfl (by kernel_rfl) (some 28) rfl (Z7 g 0) V (by kernel_rfl) ?_;exact⟨_,_,_,_,_,_,_,_,_,_,_,_,_,rfl,rfl,hF⟩
  ·obtain rfl:b3=false:=Z5 hr;obtain rfl:b2=true:=Z4 hr 2;refine ZW rfl (by kernel_rfl) (some 29) rfl (Z7 g 0) V (by kernel_rfl) ?_;exact⟨_,_,_,_,_,_,_,_,_,_,_,_,_,rfl,rfl,hF⟩
  ·obtain rfl:b4=false:=Z5 hr;obtain rfl:b3=true:=Z4 hr 3;obtain rfl:b7=false:=hF.n7a;refine ZI rfl (by kernel_rfl) (some 30) rfl 96 (.tmp 29) rfl ⟨g,0,none⟩ (.slice d.ka n d.kc) (by kernel_rfl) (xu.out V (hF.c0 rfl)) ?_;exact⟨_,_,_,_,_,_,_,_,_,_,_,_,_,rfl,rfl,hF.m4⟩
  ·obtain rfl:b5=false:=Z5 hr;obtain rfl:b6=false:=hF.n6;obtain rfl:b7=false:=hF.n7b;refine ZI rfl (by kernel_rfl) (some 31) rfl 99 (.tmp 3) rfl ⟨g0,0,none⟩ (.agg (Ym x)) (by kernel_rfl) (Ko (hF.c0 rfl).2) ?_;exact⟨_,_,_,_,_,_,_,_,_,_,_,_,_,rfl,rfl,hF.m5⟩
  ·obtain rfl:b6=false:=Z5 hr;obtain rfl:b5=true:=Z4 hr 5;obtain rfl:b7=false:=hF.n7b;obtain rfl:b10=false:=hF.n10;have hC:=HCA.out V (hF.c0 rfl);refine Yz rfl (by kernel_rfl) (some 32) rfl 96 1 #[(0,.tmp 31)] rfl #[(0,.agg (Ym x))] (by kernel_rfl) (.slice (some ⟨V.heap.size,0,none⟩) 1 1) _ (qU x V) ?_;exact⟨_,_,_,_,_,_,_,_,_,_,_,_,_,rfl,rfl,hF.m6 hC (ao4 x V)⟩
  ·obtain rfl:b7=false:=Z5 hr;obtain rfl:b4=true:=Z4 hr 4;obtain rfl:b6=true:=Z4 hr 6;obtain rfl:b10=false:=hF.n10;obtain⟨q,rfl,hq⟩:=hF.c1 rfl rfl;obtain⟨v,V2,hap,hst⟩:=HAP.out V (hF.c0 rfl) q hq;refine Zf rfl (by kernel_rfl) (some 33) rfl 96 rfl (.tmp 30) (.tmp 32) 96 rfl (.slice d.ka n d.kc) (.slice (some ⟨q,0,none⟩) 1 1) v V2 (by kernel_rfl) (by kernel_rfl) hap ?_;exact⟨b0,b1,b2,b3,true,b5,true,true,b8,b9,false,.slice (some ⟨q,0,none⟩) 1 1,v,rfl,rfl,hF.m7 hst⟩
  ·obtain rfl:b8=false:=Z5 hr;obtain rfl:b0=true:=Z4 hr 0;refine ZW rfl (by kernel_rfl) (some 34) rfl (Z7 g 0) V (by kernel_rfl) ?_;exact⟨_,_,_,_,_,_,_,_,_,_,_,_,_,rfl,rfl,hF⟩
  ·obtain rfl:b9=false:=Z5 hr;obtain rfl:b8=true:=Z4 hr 8;refine ZW rfl (by kernel_rfl) (some 35) rfl (Z7 g 0) V (by kernel_rfl) ?_;exact⟨_,_,_,_,_,_,_,_,_,_,_,_,_,rfl,rfl,hF⟩
  ·obtain rfl:b10=false:=Z5 hr;obtain rfl:b7=true:=Z4 hr 7;obtain rfl:b9=true:=Z4 hr 9;obtain⟨V3,hst,hD⟩:=hF.c2 rfl rfl;refine YL rfl (by kernel_rfl) rfl 96 (.tmp 35) (.tmp 33) rfl (Z7 g 0) x33 (by kernel_rfl) (by kernel_rfl) V3 hst ?_;exact⟨_,_,_,_,_,_,_,_,_,_,_,_,_,rfl,rfl,hF.m10 hD⟩
 ·intro ZH V hJ;obtain⟨b0,b1,b2,b3,b4,b5,b6,b7,b8,b9,b10,x32,x33,he,rfl,hF⟩:=hJ;have he:(#[true,true,true,true,true,true,true,true,true,true,true]:Array Bool)=#[b0,b1,b2,b3,b4,b5,b6,b7,b8,b9,b10]:=he;simp only[Array.mk.injEq,List.cons.injEq,and_true] at he;obtain⟨rfl,rfl,rfl,rfl,rfl,rfl,rfl,rfl,rfl,rfl,rfl⟩:=he;simp only[cond_true];have HD:=Z8 (hF.c3 rfl);obtain⟨V7,eV⟩:=ZR V;rw[eV] at HD ⊢;clear hF h0 xu HCA HAP eV;obtain⟨⟨a7,c7,hG7⟩,JQ⟩:=HD.out;have HG7:=Z8 hG7;have HX7:=Z8 JQ;clear hG7 JQ HD;obtain⟨d7,hd7⟩:∃ d7:Hd,({ d with ka:=a7,kc:=c7,A:=d.A++[x] }:Hd)=d7:=⟨_,rfl⟩;have hA7:d7.A=d.A++[x]:=by rw[<- hd7]
  have hB7:d7.B=d.B:=by rw[<- hd7]
  rw[hd7] at HG7;rw[<- hA7] at HPX Xm HND HLA HPM;clear hA7 hd7;go_upto_region 8 with fail;refine ZP (C:=fun U=>Gh Bd g d w d7 f U/\Bx U g0 (Ym x) 99) 7 (by kernel_rfl) (by kernel_rfl) (⟨HG7.out.drew,HX7.out⟩) ?_;simp only[List.take_succ_cons,List.take_zero,List.drop_succ_cons,List.drop_zero];refine gy (Z7 g 0)<|gy (Z7 g 0)<|gy (Z7 g 1)<|Zx rfl ⟨g,1,none⟩ (.map (some d7.B)) (fun U hU=>hU.1.mem.ld1)<|gy (Z7 g0 0)<|Zx rfl ⟨g0,0,none⟩ (Z9 x.1) (fun U hU=>EC hU.2) <|
    gy (Z9 n) ?_
  simp only[pu];apply wpQuiet_nil;intro X hX;obtain⟨X2,hput,hmf,-,hgr⟩:=hX.1.mem.mp.put x.1 (n:Int);have MG:=Z8 (hX.1.trans (Gh.map hX.1.mem (hX.1.base qV.out zU.out d7.B ⟨1,rfl⟩) hmf hgr));clear hX hmf hgr HG7 HX7;refine UU (by kernel_rfl) rfl X2 (SI 126 (.tmp 39) (.tmp 41) (.tmp 42) rfl (.map (some d7.B)) (Z9 x.1) (Z9 n) (by kernel_rfl) (by kernel_rfl) (by kernel_rfl) hput) ?_;apply wpList_nil;clear hput;have Gv:=Z8 (ao5 (Bd:=Bd) MG.out.mem HPX.out (MG.out.base qV.out zU.out) (MG.out.size zU.out) HND.out (by rw[HLA.out]; omega) (by rw[HLA.out]; omega) Xm.out);go_upto_region 9 with fail;refine wl<|ZB (Z7 g 0) (Z9 n)<|YD (.tuple #[]) (fun w9=>∃ T,Hm Bd g d7 X2 T w9/\uN T n) Gv.out (fun V4 MK=>?_);simp only[pu];apply wpList_nil;obtain⟨T,hT,hDn⟩:=MK;have HO:Hid (yc Bd g d w M2 V4):=Z8 (by
   have ho:=kY (n:=n) (by rw[hT.len,HLA.out]; exact Nat.le_refl _) hDn;obtain⟨pm,f4,hG4,hp4⟩:=hT;exact⟨_,_,MG.out.trans hG4,hp4,ho,pm.trans HPM.out⟩)
  clear hT hDn Gv MG;go_upto_region 10 with fail;refine wl<|ZQ ZX<|wn ?_;simp only[pu];go_wp2_with fail;go_ret;exact⟨rfl,HO.out⟩
theorem ad6 {Bd g:Nat}{d:Hd}{f:Int->Option Int}{w:World}(I:zW Bd g d f w)(x:It){M:List It}(hp:d.A.Perm M)(hln:d.A.length+1<=90000):Calls Tryz.prog 60 #[Z7 g 0,.agg (Ym x)] w fun e w'=>e=.returned (.bool (Vq M x).2)/\yc Bd g d w (Vq M x).1 w':=by
 cases hf:f x.1 with
 | some n=>exact jF I x hp hf
 | none=>exact jE I x hp hf hln
end Go.Proofs.YtnelmomagdcmnaaGreat.Hp
namespace Go.Proofs.YtnelmomagdcmnaaGreat.Hp
open Go.RowKit
end Go.Proofs.YtnelmomagdcmnaaGreat.Hp
namespace Go.Proofs.YtnelmomagdcmnaaGreat.Hp
open Go.Shelf
def SV:Go.Shelf.Ren:=⟨fun | 6=>74 | 15=>103 | 14=>104 | 28=>132 | 29=>133 | 20=>134 | 21=>135 | 22=>136 | 23=>137 | 24=>138 | 25=>139 | 26=>140 | 27=>141 | 46=>153 | 47=>149 | 48=>150 | 49=>154 | 50=>155 | 57=>159 | n=>n,fun | 22=>96 | 24=>99 | 25=>130 | 3=>3 | 39=>185 | 0=>0 | 53=>175 | 55=>23 | 4=>4 | 46=>210 | 45=>209 | 50=>162 | 5=>5 | 9=>9 | 66=>226 | 70=>190 | 76=>235 | 77=>236 | n=>n,fun | n=>n⟩
theorem Nq:Go.Proofs.SlLaysF0.n6 Tryz.prog SV:={
  mixed:=by kernel_rfl
  f6:=⟨Tryz.f74.name,by decide,Tryz.func74.trans (congrArg some (by kernel_rfl))⟩
  f14:=⟨Tryz.f104.name,by decide,Tryz.func104.trans (congrArg some (by kernel_rfl))⟩
  f15:=Tryz.func103.trans (congrArg some (by kernel_rfl))
  f20:=⟨Tryz.f134.name,by decide,Tryz.func134.trans (congrArg some (by kernel_rfl))⟩
  f21:=⟨Tryz.f135.name,by decide,Tryz.func135.trans (congrArg some (by kernel_rfl))⟩
  f22:=⟨Tryz.f136.name,by decide,Tryz.func136.trans (congrArg some (by kernel_rfl))⟩
  f23:=⟨Tryz.f137.name,by decide,Tryz.func137.trans (congrArg some (by kernel_rfl))⟩
  f24:=⟨Tryz.f138.name,by decide,Tryz.func138.trans (congrArg some (by kernel_rfl))⟩
  f25:=⟨Tryz.f139.name,by decide,Tryz.func139.trans (congrArg some (by kernel_rfl))⟩
  f26:=⟨Tryz.f140.name,by decide,Tryz.func140.trans (congrArg some (by kernel_rfl))⟩
  f27:=⟨Tryz.f141.name,by decide,Tryz.func141.trans (congrArg some (by kernel_rfl))⟩
  f28:=Tryz.func132.trans (congrArg some (by kernel_rfl))
  f29:=Tryz.func133.trans (congrArg some (by kernel_rfl))
  f46:=⟨Tryz.f153.name,by decide,Tryz.func153.trans (congrArg some (by kernel_rfl))⟩
  f47:=Tryz.func149.trans (congrArg some (by kernel_rfl))
  f48:=Tryz.func150.trans (congrArg some (by kernel_rfl))
  f49:=⟨Tryz.f154.name,by decide,Tryz.func154.trans (congrArg some (by kernel_rfl))⟩
  f50:=⟨Tryz.f155.name,by decide,Tryz.func155.trans (congrArg some (by kernel_rfl))⟩
  f57:=⟨Tryz.f159.name,by decide,Tryz.func159.trans (congrArg some (by kernel_rfl))⟩
  t0:=Tryz.underlying0
  a0:=Tryz.isAgg0
  z0:=Tryz.sizeOf0
  v0:=Tryz.zeroValue0
  t3:=Tryz.underlying3
  a3:=Tryz.isAgg3
  z3:=Tryz.sizeOf3
  v3:=Tryz.zeroValue3
  t4:=Tryz.underlying4
  a4:=Tryz.isAgg4
  z4:=Tryz.sizeOf4
  v4:=Tryz.zeroValue4
  t5:=Tryz.underlying5
  a5:=Tryz.isAgg5
  z5:=Tryz.sizeOf5
  v5:=Tryz.zeroValue5
  t9:=Tryz.underlying9
  a9:=Tryz.isAgg9
  z9:=Tryz.sizeOf9
  v9:=Tryz.zeroValue9
  t22:=Tryz.underlying96
  a22:=Tryz.isAgg96
  z22:=Tryz.sizeOf96
  v22:=Tryz.zeroValue96
  t25:=Tryz.underlying130
  a25:=Tryz.isAgg130
  z25:=Tryz.sizeOf130
  v25:=Tryz.zeroValue130
  t39:=Tryz.underlying185
  a39:=Tryz.isAgg185
  z39:=Tryz.sizeOf185
  v39:=Tryz.zeroValue185
  t45:=Tryz.underlying209
  a45:=Tryz.isAgg209
  z45:=Tryz.sizeOf209
  v45:=Tryz.zeroValue209
  t46:=Tryz.underlying210
  a46:=Tryz.isAgg210
  z46:=Tryz.sizeOf210
  v46:=Tryz.zeroValue210
  t50:=Tryz.underlying162
  a50:=Tryz.isAgg162
  z50:=Tryz.sizeOf162
  v50:=Tryz.zeroValue162
  t53:=Tryz.underlying175
  a53:=Tryz.isAgg175
  z53:=Tryz.sizeOf175
  v53:=Tryz.zeroValue175
  t55:=Tryz.underlying23
  a55:=Tryz.isAgg23
  z55:=Tryz.sizeOf23
  v55:=Tryz.zeroValue23
  t66:=Tryz.underlying226
  a66:=Tryz.isAgg226
  z66:=Tryz.sizeOf226
  v66:=Tryz.zeroValue226
  t70:=Tryz.underlying190
  a70:=Tryz.isAgg190
  z70:=Tryz.sizeOf190
  v70:=Tryz.zeroValue190
  t76:=Tryz.underlying235
  a76:=Tryz.isAgg235
  z76:=Tryz.sizeOf235
  v76:=Tryz.zeroValue235
  t77:=Tryz.underlying236
  a77:=Tryz.isAgg236
  z77:=Tryz.sizeOf236
  v77:=Tryz.zeroValue236 }
end Go.Proofs.YtnelmomagdcmnaaGreat.Hp
namespace Go.Proofs.YtnelmomagdcmnaaGreat.Hp
open Go.RowKit Go.Shelf Go.Sort
theorem ED (A:List It)(j:Nat)(hj:j<A.length*3):(itc A)[j]?=some ((OT (A.toArray[j / 3]!))[j % 3]!):=by
 have hk:j / 3<A.length:=by omega
 obtain⟨h0,h1,h2⟩:=BR A (j / 3) hk;have e:A.toArray[j / 3]! = ita A (j / 3):=by
  rw[VF hk,getElem!_pos A.toArray (j / 3) (by simpa using hk)];simp
 rw[e];rcases (show j % 3=0∨j % 3=1∨j % 3=2 by omega) with h | h | h
 ·rw[show j=j / 3*3 by omega,h0,show j / 3*3 / 3=j / 3 by omega,show j / 3*3 % 3=0 by omega]; rfl
 ·rw[show j=j / 3*3+1 by omega,h1,show(j / 3*3+1) / 3=j / 3 by omega,show(j / 3*3+1) % 3=1 by omega]; rfl
 ·rw[show j=j / 3*3+2 by omega,h2,show(j / 3*3+2) / 3=j / 3 by omega,show(j / 3*3+2) % 3=2 by omega]; rfl
theorem holds_of {w:World}{B n c g:Nat}{A:List It}(h:w.ownsRow B 99 3 (.slice (some ⟨g,0,none⟩) n c) n (itc A)):HoldsK OT 3 w g 0 A.toArray:=by
 have hn:n=A.length:=by have:=h.1; rw[Vz] at this; omega
 obtain⟨cur,hX,hz,-,ht⟩:=XK h;intro j hj;rw[size_flatK] at hj;have hj3:j<A.length*3:=by simpa using hj
 have hcl:cur.toList.length=cur.size:=Array.length_toList;rw[get_flatK _ _ _ _ hj];refine⟨?_,frozen_of_row w g _ _ 99 hX⟩;rw[Nat.zero_add,cell_of_row w g _ _ 99 (0,0) hX];have h2:=ED A j hj3;rw[<- ht,List.getElem?_take_of_lt (by omega),Array.getElem?_toList] at h2;exact h2
theorem ru {w:World}{g:Nat}{M:List It}(hg:g<w.heap.size)(h:HoldsK OT 3 w g 0 M.toArray):Cs w (some ⟨g,0,none⟩) (itc M):=fun j v hj=>by
 have hl:j<M.length*3:=by
  have:=(List.getElem?_eq_some_iff.1 hj).1;rwa [Vz] at this
 refine⟨g,0,rfl,hg,?_⟩;have h2:=(h j (by rw[size_flatK]; simpa using hl)).1;rw[h2,get_flatK _ _ _ _ (by simpa using hl)];rw[ED M j hl] at hj;exact hj
theorem jI {W V:World}(h:Gd W V):∃ q os,V=grow (W.drewN q) os:=by
 refine⟨V.drawn-W.drawn,V.heap.extract W.heap.size V.heap.size,?_⟩;obtain⟨⟨h1,h2,h3,h4,h5⟩,h6⟩:=h;have hd:W.drawn+(V.drawn-W.drawn)=V.drawn:=by omega
 have hh:W.heap++V.heap.extract W.heap.size V.heap.size=V.heap:=by
  apply Array.ext_getElem?;intro i;by_cases hi:i<W.heap.size
  ·rw[Array.getElem?_append_left hi,h5 i hi]
  ·rw[Array.getElem?_append_right (by omega),Array.getElem?_extract];by_cases h7:i-W.heap.size<min V.heap.size V.heap.size-W.heap.size
   ·rw[if_pos h7,show W.heap.size+(i-W.heap.size)=i by omega]
   ·rw[if_neg h7];rw[Array.getElem?_eq_none (by omega)]
 unfold grow World.drewN;cases V;simp only at *
 subst h1 h2 h3;rw[hd,hh]
theorem BQ {w:World}{g n B:Nat}{dk:Array It}{os:Array Obj}(hB:B<=g)(hw:B<=w.heap.size):Below B w (sortWorldK OT 3 w g 0 n dk os):=by
 have hs:(putRowK OT 3 (Sort.ahead w n) g 0 dk).heap.size=w.heap.size:=by rw[size_putRowK]; rfl
 refine⟨rfl,rfl,rfl,by unfold sortWorldK; rw[size_grow,hs]; omega,fun k hk=>?_⟩;show((putRowK OT 3 (Sort.ahead w n) g 0 dk).heap++os)[k]?=w.heap[k]?;rw[Array.getElem?_append_left (by omega)];show(w.heap.modify g _)[k]?=w.heap[k]?;rw[Array.getElem?_modify,if_neg (by omega)]
theorem Np (x y:It):ltOf NK x y=bf x y:=zV x y
theorem ad7:SWO (ltOf NK) where
 irrefl x:=by rw[Np]; exact uO x
 trans x y z h1 h2:=by rw[Np] at *; exact KQ h1 h2
 ntrans x y z h1 h2:=by rw[Np] at *; exact KP h1 h2
theorem jH {A M:List It}(hp:A.Perm M)(hs:M.Pairwise fun a b=>bf a b=true):A.mergeSort (fun x y=>!(ltOf NK) y x)=M:=by
 refine List.Perm.eq_of_pairwise (le:=fun x y=>(!(ltOf NK) y x)=true) (fun a b _ _ h1 h2=>?_) (List.pairwise_mergeSort (fun a b c h1 h2=>?_) (fun a b=>?_) A) ?_ ((List.mergeSort_perm _ _).trans hp)
 ·simp only[Np,Bool.not_eq_true'] at h1 h2;by_cases e:a=b
  ·exact e
  ·rw[C9 e h2] at h1; cases h1
 ·simp only[Np,Bool.not_eq_true'] at h1 h2 ⊢;exact KP h2 h1
 ·simp only[Np];cases h:bf b a with
  | false=>rfl
  | true=>rw[Qw h]; rfl
 ·exact hs.imp fun h=>by rw[Np,Qw h]; rfl
theorem qZ (blk off size:Nat)(w:World):CmpLays Tryz.prog 75 #[] OT 3 NK blk off size w:=fun m os dk hs x y=>
 (qY x y _).mono fun e w' q=>⟨q.1,jI q.2⟩
theorem rC {w:World}{B n c g:Nat}{A M:List It}(h:w.ownsRow B 99 3 (.slice (some ⟨g,0,none⟩) n c) n (itc A))(hB:B<=w.heap.size)(hBg:B<=g)(hp:A.Perm M)(hs:M.Pairwise fun a b=>bf a b=true)(hl:A.length<=100000) :
  Calls Tryz.prog 74 #[.slice (some ⟨g,0,none⟩) n c,.func (.func 75) #[] #[]] w fun e w'=>e=.returned (.tuple #[])/\Cs w' (some ⟨g,0,none⟩) (itc M)/\Below B w w':=by
 have hn:A.toArray.size=n:=by have:=h.1; rw[Vz] at this; simp; omega
 have hg:g<w.heap.size:=(h.lt g rfl).2;have hH:=holds_of h;have eg:∀ args W,(callFunc 75 args).run Tryz.prog W=.ok (.enter 75 args) W:=enters_of Tryz.func75 (by kernel_rfl) rfl;have hcon:=AnyQ.slices_SortFunc_total Nq 3 Tryz.isAgg99 Tryz.sizeOf99 OT (fun _=>rfl) (fun x v hv=>Hl [x] v (by simpa [itc] using hv)) NK ad7 75 #[] g 0 c A.toArray w eg (qZ g 0 A.toArray.size w) hH hg (by rw[hn]; have:=h.1; rw[Vz] at this; omega) (fun x y h1 h2=>by
  rw[Np] at h1 h2;by_cases e:x=y
  ·exact e
  ·rw[C9 e h1] at h2; cases h2)
 rw[List.toList_toArray,jH hp hs,hn] at hcon;change Calls Tryz.prog 74 _ _ _ at hcon;refine hcon.mono ?_;rintro e w' ⟨rfl,m,os,rfl⟩;refine⟨rfl,ru ?_ ?_,BQ hBg hB⟩
 ·exact lt_sortWorldK OT 3 w g 0 m M.toArray os hg
 ·exact holdsK_sortWorldK OT 3 w g 0 m A.toArray M.toArray os hg hH (by simp[hp.length_eq])
theorem xY (p:Option Addr)(c:Nat)(fv:Value)(w:World):Calls Tryz.prog 74 #[.slice p 0 c,fv] w fun e w'=>e=.returned (.tuple #[])/\w'=w:=
 AnyF.slices_SortFunc_none Nq p c fv w
end Go.Proofs.YtnelmomagdcmnaaGreat.Hp
namespace Go.Proofs.YtnelmomagdcmnaaGreat.Hp
attribute [local irreducible] wpList wpQuiet
open Go.RowKit
theorem xZ {g:Nat}{d:Hd}{f:Int->Option Int}{w:World}(h:Mh w g d f){M:List It}(hp:d.A.Perm M)(hs:M.Pairwise fun a b=>bf a b=true)(hl:d.A.length<=90000):∃ a c W1,(Builtin.append_ #[96,96] 96 #[.slice none 0 0,.slice d.ka d.A.length d.kc]).run Tryz.prog w=.ok (.slice a d.A.length c) W1/\d.A.length<=c /\
  Calls Tryz.prog 74 #[.slice a d.A.length c,.func (.func 75) #[] #[]] W1 fun e w'=>e=.returned (.tuple #[])/\Cs w' a (itc M)/\Below w.heap.size w w':=by
 obtain⟨v',W1,hr,hO,hb,-⟩:=Qx (P:=Tryz.prog) (t:=96) (B:=w.heap.size) (v:=.slice none 0 0) (n:=0) (xs:=[]) Tryz.underlying96 rD (by kernel_rfl) (by omega) (by omega) ⟨rfl,.inl ⟨rfl,rfl⟩⟩ d.ka d.kc (itc d.A) h.cs (Vz _) (Hl _) (Nat.le_refl _) (by omega) (by omega);rw[Nat.zero_add,List.nil_append] at hO;obtain⟨a,c,rfl,hcs,hc⟩:=Yy hO;refine⟨a,c,W1,hr,hc,?_⟩;rcases hO.2 with⟨e,h0⟩ | ⟨g2,cap,cur,e,hB,-⟩
 ·simp only[Value.slice.injEq] at e;obtain⟨rfl,-,rfl⟩:=e;have hM:M=[]:=List.eq_nil_of_length_eq_zero (by rw[<- hp.length_eq]; exact h0);rw[h0];exact(xY none 0 _ W1).mono fun e w' q=>⟨q.1,by rw[hM]; exact Cs.nil _ _,by rw[q.2]; exact hb⟩
 ·simp only[Value.slice.injEq,true_and] at e;obtain⟨rfl,rfl⟩:=e;exact(rC hO hb.size hB hp hs (by omega)).mono fun e w' q=>⟨q.1,q.2.1,hb.trans q.2.2⟩
theorem rE {g:Nat}{d:Hd}{f:Int->Option Int}{w:World}(h:Mh w g d f){M:List It}(hp:d.A.Perm M)(hs:M.Pairwise fun a b=>bf a b=true)(hl:d.A.length<=90000):Calls Tryz.prog 43 #[Z7 g 0] w fun e w'=>∃ a c,e=.returned (.slice a M.length c)/\Cs w' a (itc M)/\M.length<=c/\Below w.heap.size w w':=by
 obtain⟨a,c,W1,hap,hc,hso⟩:=xZ h hp hs hl;have HL:=Z8 h.dV;rw[hp.length_eq] at hap hc hso HL;obtain⟨n,hn⟩:=ZR M.length;rw[hn] at hap hc hso HL ⊢;have HSO:=Z8 hso;clear h hp hs hl hn hso;go_enter Tryz.func43,Tryz.ntmps43;go_upto_region 1 with fail;refine wl<|ZB (Z7 g 0) ZY<|wn ?_;simp only[pu];go_upto_region 3 with fail;refine wl<|YX (Z7 g 0) (Z7 g 0) (Z7 g 0)<|ZC rfl ⟨g,0,none⟩ (.slice d.ka n d.kc) (HL.out) ?_;refine YU rfl (some 10) rfl 96 rfl (.const (.slice none 0 0)) (.tmp 9) 96 rfl (.slice none 0 0) (.slice d.ka n d.kc) (.slice a n c) W1 (by kernel_rfl) (by kernel_rfl) hap ?_;refine ZQ (.slice a n c)<|wn ?_;simp only[pu];clear hap HL;go_upto_region 4 with fail;refine wl<|ZQ (.slice a n c)<|YD (.tuple #[]) (fun w'=>Cs w' a (itc M)/\Below w.heap.size w w') HSO.out (fun V2 hV2=>?_);simp only[pu];apply wpList_nil;have HV:=Z8 hV2;clear hV2 HSO;go_upto_region 5 with fail;refine wl<|ZB (.slice a n c) (.slice a n c)<|wn ?_;simp only[pu];go_wp2_with fail;go_ret;exact⟨a,c,rfl,HV.out.1,hc,HV.out.2⟩
end Go.Proofs.YtnelmomagdcmnaaGreat.Hp
namespace Go.Proofs.YtnelmomagdcmnaaGreat.Hp
open Go.RowKit
def yS (R:World->Nat->(Nat->Prop)->List It->Prop)(g B:Nat)(S:Nat->Prop)(M:List It)(w w':World):Prop:=∃ S',R w' g S' M/\(∀ k,S' k->S k∨w.heap.size<=k)/\ZL B S w w'
def TY (w:World)(g:Nat)(S:Nat->Prop)(M:List It):Prop:=∃ d f,Mh w g d f/\Px d.A f/\HO d.A/\d.A.Perm M/\∀ k,S k↔Sh g d k
theorem TY.in9 {w:World}{g B:Nat}{S:Nat->Prop}{M:List It}(h:TY w g S M)(hw:Wh M)(hl:M.length<=80000)(hB:∀ j,S j->B<=j)(hs:B<=w.heap.size):∃ d f,zW B g d f w/\d.A.Perm M/\∀ k,S k↔Sh g d k:=by
 obtain⟨d,f,h1,h2,h3,h4,h5⟩:=h;exact⟨d,f,⟨h1,h2,h3,fun k hk=>hB k ((h5 k).2 hk),hs,(h4.map (·.1)).nodup_iff.2 hw.ids,by rw[h4.length_eq]; omega⟩,h4,h5⟩
theorem yc.upd {w V:World}{g B:Nat}{d:Hd}{S:Nat->Prop}{M:List It}(h:yc B g d w M V)(hS:∀ k,S k↔Sh g d k):yS TY g B S M w V:=by
 obtain⟨d',f',hG,h1,h2,h3⟩:=h;exact⟨Sh g d',⟨d',f',hG.mem,h1,h2,h3,fun k=>Iff.rfl⟩,fun k hk=>(hG.sub k hk).imp (hS k).2 id,hG.but.1,fun k hk hn=>hG.but.2 k hk fun h4=>hn ((hS k).2 h4)⟩
theorem TY.inn {w:World}{g:Nat}{S:Nat->Prop}{M:List It}(h:TY w g S M):∀ k,S k->k<w.heap.size:=fun k hk=>by
 obtain⟨d,f,h1,h2,h3,h4,h5⟩:=h;obtain⟨i,hi⟩:=(h5 k).1 hk;exact h1.inn i k hi
theorem TY.same {w w':World}{g:Nat}{S:Nat->Prop}{M:List It}(h:TY w g S M)(hs:∀ k,S k->w'.heap[k]?=w.heap[k]?):TY w' g S M:=by
 obtain⟨d,f,h1,h2,h3,h4,h5⟩:=h;exact⟨d,f,h1.same fun i k hk=>hs k ((h5 k).2 ⟨i,hk⟩),h2,h3,h4,h5⟩
theorem gu (w:World):Calls Tryz.prog 55 #[] w fun e w'=>∃ g S,e=.returned (Z7 g 0)/\TY w' g S []/\(∀ k,S k->w.heap.size<=k)/\Below w.heap.size w w':=(P9 w).mono fun e w' q=>by
 obtain⟨g,d,e1,e2,e3,e4,e5⟩:=q;exact⟨g,Sh g d,e1,⟨d,_,e2,by rw[e3]; exact Px.nil,by rw[e3]; exact aa2,by rw[e3],fun k=>Iff.rfl⟩,e4,e5⟩
theorem aJ {w:World}{g:Nat}{S:Nat->Prop}{M:List It}(x:It){B:Nat}(h:TY w g S M)(hw:Wh M)(hl:M.length<=80000)(hB:∀ j,S j->B<=j)(hs:B<=w.heap.size):Calls Tryz.prog 60 #[Z7 g 0,.agg (Ym x)] w fun e w'=>e=.returned (.bool (Vq M x).2)/\yS TY g B S (Vq M x).1 w w':=by
 obtain⟨d,f,I,hp,hS⟩:=h.in9 hw hl hB hs;exact(ad6 I x hp (by rw[hp.length_eq]; omega)).mono fun e w' q=>⟨q.1,q.2.upd hS⟩
theorem al2 {w:World}{g:Nat}{S:Nat->Prop}{M:List It}(k:Int){B:Nat}(h:TY w g S M)(hw:Wh M)(hl:M.length<=80000)(hB:∀ j,S j->B<=j)(hs:B<=w.heap.size):Calls Tryz.prog 66 #[Z7 g 0,Z9 k] w fun e w'=>e=.returned (.bool (U4 M k).2)/\yS TY g B S (U4 M k).1 w w':=by
 obtain⟨d,f,I,hp,hS⟩:=h.in9 hw hl hB hs;exact(rF I k hp).mono fun e w' q=>⟨q.1,q.2.upd hS⟩
theorem vV {w:World}{g:Nat}{S:Nat->Prop}{M:List It}(h:TY w g S M)(hw:Wh M)(hl:M.length<=80000):Calls Tryz.prog 43 #[Z7 g 0] w fun e w'=>∃ a c,e=.returned (.slice a M.length c)/\Cs w' a (itc M)/\M.length<=c/\Below w.heap.size w w':=by
 obtain⟨d,f,h1,h2,h3,h4,h5⟩:=h;exact rE h1 h4 hw.FB (by rw[h4.length_eq]; omega)
end Go.Proofs.YtnelmomagdcmnaaGreat.Hp
namespace Go.Proofs.YtnelmomagdcmnaaGreat.Sd
attribute [local irreducible] wpList wpQuiet
open Go.RowKit
def Nm (w:World)(g:Nat)(a:Option Addr)(c:Nat)(L:List Int)(N:Nat):Prop:=Bx w g #[.slice a L.length c,Z9 N] 66/\Cs w a (ZJ L)/\(L≠[]->∀ x,a=some x->x.block<g)
section
variable {w w' : World} {g c N q : Nat} {a : Option Addr} {L : List Int}
theorem Nm.lt (h:Nm w g a c L N):g<w.heap.size:=h.1.lt
theorem Nm.below (h:Nm w g a c L N)(hb:Below w.heap.size w w'):Nm w' g a c L N:=⟨h.1.below h.1.lt hb,h.2.1.below hb,h.2.2⟩
theorem MI {cs:List Value}(h:Cs w a cs)(hb:But q w w')(hn:cs≠[]->∀ x,a=some x->x.block≠q):Cs w' a cs:=by
 cases cs with
 | nil=>exact Cs.nil _ _
 | cons x r=>exact h.but hb (hn (by simp))
theorem Jj (h:ZJ L≠[]):L≠[]:=fun e=>h (by rw[e]; rfl)
theorem Nm.but (h:Nm w g a c L N)(hb:But q w w')(hq:g<q):Nm w' g a c L N:=⟨h.1.but hb (by omega),MI h.2.1 hb (fun hn x hx=>by have:=h.2.2 (Jj hn) x hx; omega),h.2.2⟩
theorem Nm.low (h:Nm w g a c L N){B:Nat}(hb:Below B w w')(hg:g<B):Nm w' g a c L N:=⟨h.1.below hg hb,Ov h.2.1 fun k hk=>hb.block k (by obtain⟨hn,x,hx,rfl⟩:=hk; have:=h.2.2 (Jj hn) x hx; omega),h.2.2⟩
theorem Nm.U7 {B:Nat}{S:Nat->Prop}(h:Nm w g a c L N)(hb:ZL B S w w')(hg:g<B):Nm w' g a c L N:=h.low hb.1 hg
end
section
variable {ρ : Operand -> Value} {o : Oper} {x y : Operand}
end
end Go.Proofs.YtnelmomagdcmnaaGreat.Sd
