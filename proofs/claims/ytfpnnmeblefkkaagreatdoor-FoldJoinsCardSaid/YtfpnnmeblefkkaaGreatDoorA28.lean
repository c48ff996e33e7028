/-
  Texts joined.
-/
import Derived.Test.YtfpnnmeblefkkaaGreatDoorA27
import Derived.ChangeOld
set_option maxRecDepth 100000
set_option maxHeartbeats 8000000
set_option linter.unusedSimpArgs false
set_option linter.unusedVariables false
namespace Go.Proofs.YtfpnnmeblefkkaaGreatDoor.Lg
open Go.ChangeShapes Go.WideShapes Go.ChangeAt Go.Deep Go.Joins
open Go.RowKit
theorem H9 {x:Int}(h:(Lit.int .i64 x).wf=true):-9223372036854775808<=x/\x<=9223372036854775807:=by
 simp[Lit.wf,IntKind.min,IntKind.max,IntKind.signed,IntKind.bits] at h;exact⟨by omega,by omega⟩
theorem Jz {H:Type}{enc:TypeId×Value->H}{W:World}{fuel:Nat}{cs:List Value}{y:DataW H×List MemPlace}(h:DataW.trod enc Tryz.prog W 0 (fun _=>true) true fuel 22 cs=some y) :
  ∃ a cap L,cs=[.slice a (List.length L) cap]/\L.length<=9223372036854775807/\Cs W a (X9 L):=by
 rcases open_ints Tryz.underlying22 Tryz.underlying3 (by kernel_rfl) h with⟨rfl,rfl⟩ | ⟨x,l,c,zs,rfl,_,hl,hm,hz,rfl,hcell,hwz⟩
 ·exact⟨none,0,[],rfl,by simp,Cs.nil _ _⟩
 ·have hz':zs.length=c:=by simpa using hz
  have hlen:(zs.take l).length=l:=by rw[List.length_take]; omega
  refine⟨some x,c,zs.take l,by rw[hlen],by rw[hlen]; unfold maxLen at hm; omega,fun j v hj=>?_⟩;have hjl:j<(zs.take l).length:=by
   have:=(List.getElem?_eq_some_iff.1 hj).1;simpa [X9] using this
  have hjz:j<zs.length:=by omega
  obtain⟨b,off,rfl,hc⟩:=ints_at hcell (by omega);rw[Io _ _ hjl] at hj;simp only[Option.some.injEq] at hj;have hcj:=hc j hjz;refine⟨b,off,rfl,World.block_lt_of_cell? W _ hcj,?_⟩;rw[hcj,<- hj];simp[List.getD,show j<l by omega]
theorem sD {x:Int}(h:(Lit.int .u64 x).wf=true):W64 x:=by
 simp[Lit.wf,IntKind.min,IntKind.max,IntKind.signed,IntKind.bits] at h;exact⟨by omega,by omega⟩
theorem BJ {H:Type}{enc:TypeId×Value->H}{W:World}{fuel:Nat}{cs:List Value}{y:DataW H×List MemPlace}(h:DataW.trod enc Tryz.prog W 0 (fun _=>true) true fuel 23 cs=some y) :
  ∃ a cap E,cs=[.slice a (List.length E) cap]/\E.length<=9223372036854775807/\Rn W a E:=by
 rcases open_slice1 Tryz.underlying23 (by kernel_rfl) h with⟨rfl,rfl⟩ | ⟨a,len,cap,m,n,V,D,Pl,rfl,_,hl,hm,hmm,rfl,hV⟩
 ·exact⟨none,0,[],rfl,by simp,Cs.nil _ _,(fun e he=>by cases he),(fun e he=>by cases he),fun e he=>by cases he⟩
 ·have hm':m=cap:=by simpa using hmm
  obtain⟨E,hE,hq⟩:=aS (Q:=fun i (e:Bs)=>∃ b off,a=⟨b,off,none⟩/\b<W.heap.size/\W.cell? ⟨b,off+i,none⟩=some (.slice e.1 e.2.2.length e.2.1)/\Sl W e.1 e.2.1 e.2.2/\e.2.2.length<=e.2.1/\∀ y,y∈e.2.2->W8 y) len (by
   intro i hi;obtain⟨hc,ht⟩:=hV i (by omega);obtain⟨a',c',L,e,h1,h2,h3,-,-⟩:=tq ht;have hVi:V i=.slice a' L.length c':=(by simpa using e);obtain⟨b,off,spot⟩:=a;have hspot:spot=none:=by
    obtain⟨hc0,ht0⟩:=hV 0 (by omega);have h0:W.cell? ⟨b,off,spot⟩=some (V 0):=(by simpa [Addr.add] using hc0);simpa using World.cell?_spot (v:=V 0) h0
   subst hspot;rw[hVi,Addr.add_mid] at hc;exact⟨(a',c',L),b,off,rfl,World.block_lt_of_cell? W _ hc,hc,h2,h1,h3⟩)
  have hm2:∀ e,e∈E->Sl W e.1 e.2.1 e.2.2/\e.2.2.length<=e.2.1/\∀ y,y∈e.2.2->W8 y:=fun e he=>by
   obtain⟨i,hi⟩:=List.getElem?_of_mem he;obtain⟨b,off,-,-,-,h3⟩:=hq i e hi;exact h3
  refine⟨some a,cap,E,by rw[hE],by unfold maxLen at hm; omega,fun j v hj=>?_,fun e he=>(hm2 e he).1,fun e he=>(hm2 e he).2.1,fun e he=>(hm2 e he).2.2⟩;unfold PG at hj;rw[List.getElem?_map] at hj;cases hj2:E[j]? with
  | none=>rw[hj2] at hj; cases hj
  | some e=>
   rw[hj2] at hj;obtain⟨b,off,rfl,hb,hc,-⟩:=hq j e hj2;simp only[Option.map_some,Option.some.injEq] at hj;exact⟨b,off,rfl,hb,by rw[<- hj]; exact hc⟩
end Go.Proofs.YtfpnnmeblefkkaaGreatDoor.Lg
