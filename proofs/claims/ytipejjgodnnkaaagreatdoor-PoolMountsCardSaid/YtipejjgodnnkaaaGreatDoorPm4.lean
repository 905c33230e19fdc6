/- The program's four steps by a look-up: what it answers for any register, where the table r -/
import Derived.Test.YtipejjgodnnkaaaGreatDoorCrc
import Derived.Test.YtipejjgodnnkaaaGreatDoorPm1
import Derived.Test.YtipejjgodnnkaaaGreatDoorRows
import Derived.Laws.BitsAll
import Derived.ProofKit
import Derived.OpenShut
import Derived.Carry
import Derived.ChangeSame
import Derived.SizedLaws
import Derived.SliceStrings
import Derived.ChangeMaps5
import Derived.LaidMore
import Derived.LaidHandle
import Derived.MakeChecks
import Derived.Deep.Matrix
import Derived.Stop.Joined
namespace Go.Proofs.YtipejjgodnnkaaaGreatDoor
open Go Go.RowKit Go.Proofs
set_option maxHeartbeats 800000
theorem T22:ByteT Tryz.prog 30 5:=⟨Tryz.underlying30,by kernel_rfl⟩
def Tab (w:World):Prop:=1<w.heap.size∧∀k:Nat,k<16→w.cell? ⟨1,k,none⟩=some (.int .u32 (st4 k:Nat))
theorem Tab.below {w w':World}{B:Nat}(h:Tab w)(hb:Below B w w')(hB:1<B):Tab w':=
 ⟨by have:=hb.size;have:=h.1;omega,fun k hk=>(hb.cell (p:=⟨1,k,none⟩) hB).trans (h.2 k hk)⟩
theorem qag (r:Nat)(hr:r<4294967296)(w:World)(h:Tab w) :
  Calls Tryz.prog 229 #[.int .u32 (r:Nat)] w fun e w'=>e=.returned (.int .u32 (st4 r:Nat))∧w=w':=by
 obtain⟨m,hm⟩:∃m,m=r % 16:=⟨_,rfl⟩
 have hm16:m<16:=by omega
 have hcell:=h.2 m hm16
 have hand:bits .and .u32 (r:Int) 15=(m:Int):=by
  rw[show (15:Int)=((15:Nat):Int) from rfl,u32_and_nat r 15 hr (by omega),nat_mask4,hm]
 have Hm:=Lib.hid hm
 clear hm
 go_enter Tryz.func229,Tryz.ntmps229
 go_wp2
 go_ret
 have hx:bits .xor .u32 ((r:Int) / 16) (st4 m:Nat)=(st4 r:Nat):=by
  rw[show (r:Int) / 16=((r / 16:Nat):Int) by omega,u32_xor_nat _ _ (by omega) (qg3 (by omega)),Hm.out,←qnh r]
 exact⟨q6g hx,rfl⟩
theorem qhi (r:Nat)(l:List UInt8)(k:Nat)(h:k<l.length):crcRun r (l.take (k+1))=st4 (st4 (crcRun r (l.take k) ^^^ byt l k)):=by
 rw[qc6 l k h,qeh]
 have:=q39 l k
 unfold by8 st8
 rw[show (UInt8.ofNat (byt l k)).toNat=byt l k by simp;omega]
theorem qp6 (s:Nat)(hs:s<4294967296)(A:Option Addr)(n c:Nat)(l:List UInt8)(w:World)(hsl:Sl w A n c l)(ht:Tab w) :
  Calls Tryz.prog 212 #[.int .u32 (s:Nat),.slice A n c] w fun e w'=>e=.returned (.int .u32 (more s l:Nat))∧w=w':=by
 have hm:=hsl.max
 have hc:=hsl.cap
 unfold maxLen at hm
 have Hl:=Lib.hid hsl.len
 obtain⟨q,hq⟩:∃q,q=4294967295-s:=⟨_,rfl⟩
 have hnot:bits .xor .u32 IntKind.u32.max (s:Int)=(q:Int):=by
  rw[show IntKind.u32.max=((4294967295:Nat):Int) from rfl,u32_xor_nat _ s (by omega) hs,Nat.xor_comm,q7f hs,hq]
 have hq32:q<4294967296:=by omega
 have Hq:=Lib.hid hq
 clear hq
 go_enter Tryz.func212,Tryz.ntmps212
 go_wp2
 go_loop [5,12] (fun r i=>∃k:Nat,k≤n∧i=.int .i64 k∧r=.int .u32 (crcRun q (l.take k):Nat)) (fun _ i=>n-(intOf i).toNat)
 case atStart=>exact⟨0,Nat.zero_le _,rfl,rfl⟩
 case round=>
  obtain⟨k,hk,rfl,rfl⟩:=hrel
  have hx:=qc5 (l.take k) hq32
  by_cases hlt:k<n
  ·obtain⟨ad,rfl,hb,hcell⟩:=hsl.cell hlt
   have hb1:=q39 l k
   have Hn:=Lib.hid (qhi q l k (by rw[Hl.out];exact hlt))
   generalize crcRun q (l.take k)=x at hx Hn
   have hxor:bits .xor .u32 (x:Int) (byt l k:Int)=((x ^^^ byt l k:Nat):Int):=u32_xor_nat _ _ hx (by omega)
   have hy:x ^^^ byt l k<4294967296:=qg2 hx (by omega)
   generalize x ^^^ byt l k=y at hxor hy Hn
   have hy4:=qg3 hy
   go_wp2_with fail
   refine (qag y hy w ht).mono ?_
   rintro e w' ⟨rfl,rfl⟩
   obtain⟨y4,hy4e⟩:∃y4,y4=st4 y:=⟨_,rfl⟩
   rw[←hy4e] at hy4 Hn ⊢
   have Hy4:=Lib.hid hy4e
   clear hy4e
   go_wp2_with fail
   refine (qag y4 hy4 w ht).mono ?_
   rintro e w' ⟨rfl,rfl⟩
   go_wp2
   exact⟨⟨k+1,by omega,by go_num,by rw[Hn.out]⟩,by simp[intOf];omega⟩
  ·obtain rfl:k=n:=by omega
   have Ht:=Lib.hid (show l.take k=l from List.take_of_length_le (by rw[Hl.out];omega))
   have hnot2:bits .xor .u32 IntKind.u32.max (crcRun q (l.take k):Int)=((4294967295-crcRun q (l.take k):Nat):Int):=by
    rw[show IntKind.u32.max=((4294967295:Nat):Int) from rfl,u32_xor_nat _ _ (by omega) hx,Nat.xor_comm,q7f hx]
   have Hnot2:=Lib.hid hnot2
   clear hnot2
   go_wp2
   go_ret
   exact⟨q6g (by rw[Hnot2.out,Ht.out,Hq.out];rfl),rfl⟩
def stN:Nat→Nat→Nat
 |0,r=>r
 |n+1,r=>st (stN n r)
theorem qtj (n:Nat){r:Nat}(h:r<4294967296):stN n r<4294967296:=by
 induction n with
 |zero=>exact h
 |succ n ih=>exact qjo ih
theorem qfp (s:Nat)(hs:s<4294967296)(A:Option Addr)(n c:Nat)(l:List UInt8)(w:World)(h:Sl w A n c l) :
  Calls Tryz.prog 176 #[.int .u32 (s:Nat),.slice A n c] w fun e w'=>e=.returned (.int .u32 (more s l:Nat))∧w=w':=by
 have hm:=h.max
 have hc:=h.cap
 unfold maxLen at hm
 have Hl:=Lib.hid h.len
 obtain⟨q,hq⟩:∃q,q=4294967295-s:=⟨_,rfl⟩
 have hnot:bits .xor .u32 (s:Int) 4294967295=(q:Int):=by
  rw[show (4294967295:Int)=((4294967295:Nat):Int) from rfl,u32_xor_nat s _ hs (by omega),q7f hs,hq]
 have hq32:q<4294967296:=by omega
 have Hq:=Lib.hid hq
 clear hq
 go_enter Tryz.func176,Tryz.ntmps176
 go_wp2
 go_loop [5,6] (fun r i=>∃k:Nat,k≤n∧i=.int .i64 k∧r=.int .u32 (crcRun q (l.take k):Nat)) (fun _ i=>n-(intOf i).toNat)
 case atStart=>exact⟨0,Nat.zero_le _,rfl,rfl⟩
 case round=>
  obtain⟨k,hk,rfl,rfl⟩:=hrel
  have hx:=qc5 (l.take k) hq32
  by_cases hlt:k<n
  ·obtain⟨ad,rfl,hb,hcell⟩:=h.cell hlt
   have hb1:=q39 l k
   have Hn:=Lib.hid (qhi q l k (by rw[Hl.out];exact hlt))
   generalize crcRun q (l.take k)=x at hx Hn
   have hxor:bits .xor .u32 (x:Int) (byt l k:Int)=((x ^^^ byt l k:Nat):Int):=u32_xor_nat _ _ hx (by omega)
   have hy:x ^^^ byt l k<4294967296:=qg2 hx (by omega)
   generalize x ^^^ byt l k=y at hxor hy Hn
   go_wp2
   go_loop [5,7] (fun r i=>∃j:Nat,j≤8∧i=.int .i64 j∧r=.int .u32 (stN j y:Nat)) (fun _ i=>8-(intOf i).toNat)
   case atStart=>exact⟨0,by omega,rfl,rfl⟩
   case round=>
    obtain⟨j,hj,rfl,rfl⟩:=hrel
    have hz:=qtj j hy
    by_cases hlt2:j<8
    ·have Hs:=Lib.hid (show stN (j+1) y=st (stN j y) from rfl)
     generalize stN j y=z at hz Hs
     by_cases hodd:z % 2=1
     ·have hxor2:bits .xor .u32 ((z:Int) / 2) 2197175160=((z / 2 ^^^ 2197175160:Nat):Int):=by
       rw[show (2197175160:Int)=((2197175160:Nat):Int) from rfl,show (z:Int) / 2=((z / 2:Nat):Int) by omega,u32_xor_nat _ _ (by omega) (by omega)]
      have Hst:=Lib.hid (show st z=z / 2 ^^^ 2197175160 from if_pos hodd)
      have hodd':(z:Int) % 2=1:=by omega
      clear hodd
      go_wp2
      exact⟨⟨j+1,by omega,by go_num,by rw[Hs.out,Hst.out]⟩,by simp[intOf];omega⟩
     ·have Hst:=Lib.hid (show st z=z / 2 from if_neg hodd)
      have hodd':(z:Int) % 2=0:=by omega
      clear hodd
      go_wp2
      exact⟨⟨j+1,by omega,by go_num,by rw[Hs.out,Hst.out];go_num⟩,by simp[intOf];omega⟩
    ·obtain rfl:j=8:=by omega
     go_wp2
     exact⟨⟨k+1,by omega,by go_num,by rw[Hn.out];rfl⟩,by simp[intOf];omega⟩
  ·obtain rfl:k=n:=by omega
   have Ht:=Lib.hid (show l.take k=l from List.take_of_length_le (by rw[Hl.out];omega))
   have hnot2:bits .xor .u32 (crcRun q (l.take k):Int) 4294967295=((4294967295-crcRun q (l.take k):Nat):Int):=by
    rw[show (4294967295:Int)=((4294967295:Nat):Int) from rfl,u32_xor_nat _ _ hx (by omega),q7f hx]
   have Hnot2:=Lib.hid hnot2
   clear hnot2
   go_wp2
   go_ret
   exact⟨q6g (by rw[Hnot2.out,Ht.out,Hq.out];rfl),rfl⟩
theorem qs6 (A:Option Addr)(n c:Nat)(l:List UInt8)(w:World)(h:Sl w A n c l)(ht:Tab w) :
  Calls Tryz.prog 190 #[.slice A n c] w fun e w'=>e=.returned (.int .u32 (more 0 l:Nat))∧w=w':=by
 go_enter Tryz.func190,Tryz.ntmps190
 go_wp2_with (go_at_call 212;refine (qp6 0 (by omega) A n c l w h ht).mono ?_;rintro e w' ⟨rfl,rfl⟩)
 go_ret
 exact⟨rfl,rfl⟩
theorem qah (A:Option Addr)(n c:Nat)(l:List UInt8)(w:World)(h:Sl w A n c l) :
  Calls Tryz.prog 125 #[.slice A n c] w fun e w'=>e=.returned (.int .u32 (more 0 l:Nat))∧w=w':=by
 go_enter Tryz.func125,Tryz.ntmps125
 go_wp2_with (go_at_call 176;refine (qfp 0 (by omega) A n c l w h).mono ?_;rintro e w' ⟨rfl,rfl⟩)
 go_ret
 exact⟨rfl,rfl⟩
section
open Go.ChangeShapes Go.WideShapes Go.ChangeAt
section
variable {H:Type}{enc:TypeId × Value→H}{P:Program}
theorem q65 (hl:laidOutB P=true){W W':World}{sp:Nat→Bool}:∀(ts:List TypeId) (vs:List Value) (ds:List (DataW H)) (ps:List MemPlace),
  (∀t∈ts,P.readableRec t=true∧t<P.types.size)→DataW.TrodAll enc P W 0 (fun _=>true) true ts vs ds ps→(∀p∈ps,W.sameAt W' p)→(∀p∈ps,sp p.block=true)→DataW.TrodAll enc P W' 0 sp true ts vs ds ps
 |[],vs,ds,ps,_,h,_,_=>by
  obtain⟨rfl,rfl,rfl⟩:=trodAll_nil h
  exact trodAll_mk0
 |t::ts,vs,ds,ps,hr,h,hs,hsp=>by
  obtain⟨v,vs',d,ds',p,q,rfl,rfl,rfl,h1,h2⟩:=trodAll_cons h
  have ⟨r1,r2⟩:=hr t (List.mem_cons_self ..)
  refine⟨p,q,WideElems.Trod_stays hl r1 r2 h1 (fun x hx=>hs x (List.mem_append_left _ hx)) (fun x hx=>hsp x (List.mem_append_left _ hx)),?_,rfl⟩
  exact q65 hl ts vs' ds' q (fun t ht=>hr t (List.mem_cons_of_mem _ ht)) h2 (fun x hx=>hs x (List.mem_append_right _ hx)) (fun x hx=>hsp x (List.mem_append_right _ hx))
theorem qp7 {f:Func}{s:ChangeSpec}{tb:TypeId}{W W':World}{args:Array Value}{ds gs:List (DataW H)}{before:List MemPlace}
  (hres:f.resultTypes=#[tb]) (hbool:P.underlying tb=some .bool) (hvars:s.vars=[]) (hl:laidOutB P=true) (hr:∀t∈f.params.toList,P.readableRec t=true∧t<P.types.size)
  (hW:DataW.Whole enc P f.params.toList s.vars false W args.toList ds gs before) (hfn:s.fn H (ds++gs)={ results:=[.lit (.bool true)],args:=ds }) (hb:Below W.heap.size W W') :
  s.post enc P f false true false false W args (.bool true) W':=by
 have hlt:∀p∈before,p.block<W.heap.size:=fun p hp=>hW.lt p hp
 have hW':=hW
 obtain⟨p,q,hA,hV,rfl,hz,hn⟩:=hW
 rw[hvars] at hV
 obtain⟨rfl,rfl⟩:=trodVars_none hV
 rw[List.append_nil] at hlt hfn
 have hargs:DataW.TrodAll enc P W' 0 (fun b=>decide (b<W.heap.size)) true f.params.toList args.toList ds p:=
  q65 hl _ _ _ _ hr hA (fun x hx=>hb.same (hlt x hx)) (fun x hx=>by simpa using hlt x hx)
 refine⟨ds,[],p++[],[],p,[],hW',?_,?_,?_,?_,fun h=>by cases h⟩
 ·rw[List.append_nil,hfn,hres]
  exact trodAll_mk1 (shut_bool hbool true)
 ·rw[List.append_nil,hfn];exact hargs
 ·rw[List.append_nil,hfn,hvars];rfl
 ·exact hb.frame _
end
theorem qj7 {H:Type}{enc:TypeId × Value→H}{P:Program}{W:World}{t e:TypeId}{v:Value}{d:DataW H}{ps:List MemPlace}(T:ByteT P t e)(he:P.underlying e=some (.int .u8))
  (hv:∃a len cap,v=.slice a len cap) (h:DataW.Trod enc P W 0 (fun _=>true) true t v d ps):∃A n c l,v=.slice A n c∧Sl W A n c l:=by
 obtain⟨fuel,hf⟩:=h
 obtain⟨a0,len0,cap0,rfl⟩:=hv
 have hc:P.cellsOf e=1:=by
  obtain⟨i,hi,_,hz1,_⟩:=info_parts T.info
  simp[Program.cellsOf,hi,hz1]
 rcases open_ints T.sl he hc hf with⟨hcs,_⟩|⟨a,len,cap,zs,hcs,_,hl,hm,hz,_,hcell,hw⟩
 ·simp[Value.cells] at hcs
  obtain⟨rfl,rfl,rfl⟩:=hcs
  exact⟨_,_,_,[],rfl,q0k W⟩
 ·simp[Value.cells] at hcs
  obtain⟨rfl,rfl,rfl⟩:=hcs
  rw[if_pos rfl] at hz
  refine⟨_,_,_,(zs.take len0).map (fun z=>UInt8.ofNat z.toNat),rfl,?_,hl,hm,fun j u hu=>?_⟩
  ·simp;omega
  ·have hj:j<len0:=by have:=(List.getElem?_eq_some_iff.1 hu).1;simp at this;omega
   have hj2:j<zs.length:=by omega
   have hc:=hcell j hj2
   refine⟨a,rfl,?_,?_⟩
   ·have:=World.block_lt_of_cell? W (a.add j) hc
    rwa [q0n] at this
   ·rw[hc,←hu]
    rw[List.map_map,List.getElem?_map,List.getElem?_take_of_lt hj,List.getElem?_eq_getElem hj2]
    have hb:=bounds_u8 (hw zs[j] (List.getElem_mem hj2))
    simp only[Option.map_some,Function.comp,bv,List.getD_eq_getElem?_getD,List.getElem?_eq_getElem hj2,Option.getD_some]
    congr 2
    rw[UInt8.toNat_ofNat']
    omega
end
section
open Go.ChangeShapes Go.WideShapes Go.ChangeAt
theorem qdz {H:Type}{enc:TypeId × Value→H}{P:Program}{W:World}{base:Nat}{sp:Nat→Bool}{held:Bool}{fuel:Nat}{t e:TypeId}{n:Nat}{k:IntKind}{cs:List Value}{zs:List Int}{p:List MemPlace}
  (ht:P.underlying t=some (.array n e)) (he:P.underlying e=some (.int k)) (hc:P.cellsOf e=1) (h:DataW.trod enc P W base sp held fuel t cs=some (.agg (zs.map fun z=>.lit (.int k z)),p)) (i:Nat) (hi:i<n):cs[i]?=some (.int k (zs.getD i 0)):=by
 obtain⟨xs,m,rfl,hx,_,hn,hel⟩:=DataW.trod_array ht h
 have h1:=hel i hi
 rw[hc,Nat.mul_one] at h1
 have hxi:i<xs.length:=by omega
 rw[List.getElem?_eq_getElem hxi] at h1
 obtain⟨z,e1,e2,_⟩:=DataW.trod_int he h1
 simp only[Prod.mk.injEq,DataW.agg.injEq] at hx
 have h2:=congrArg (fun l=>l[i]?) hx.1
 simp only[List.getElem?_map] at h2
 rw[List.getElem?_eq_getElem hxi,e2] at h2
 have hz:zs[i]?=some z:=by
  cases hq:zs[i]? with
  |none=>rw[hq] at h2;cases h2
  |some y=>rw[hq] at h2;simp only[Option.map_some,Option.some.injEq] at h2;cases h2;rfl
 have h3:cs[i]?=some (.int k z):=by
  have:=congrArg (fun l=>l[0]?) e1
  simpa [List.getElem?_take,List.getElem?_drop] using this
 rw[h3,List.getD_eq_getElem?_getD,hz];rfl
theorem qmj {P:Program}{W:World}{name:String}{g:Nat}{t e:TypeId}{n:Nat}{k:IntKind}{zs:List Int}(hg:P.globalNamed name=some g)(hgt:(P.globals[g]?).map (·.type)=some t)
  (ht:P.underlying t=some (.array n e)) (he:P.underlying e=some (.int k)) (hc:P.cellsOf e=1) (h:laidMet P [(name,.agg (zs.map fun z=>.lit (.int k z)))] W) (i:Nat) (hi:i<n):W.cell? ⟨g,i,none⟩=some (.int k (zs.getD i 0)):=by
 obtain⟨ps,⟨g0,t0,cs0,f0,p0,q0,hg0,ht0,hv0,hd0,_,_⟩,_,_⟩:=h
 obtain rfl:=Option.some.inj (hg.symm.trans hg0)
 obtain rfl:=Option.some.inj (hgt.symm.trans ht0)
 rw[World.var?_cell hg hv0 i]
 have:=qdz ht he hc hd0 i hi
 simpa using this
end
section
open Go.ChangeShapes Go.WideShapes Go.ChangeAt
theorem own0:ownKnob Tryz.prog.godebug=none:=by kernel_rfl
theorem laid0:laidOutB Tryz.prog=true:=by kernel_rfl
abbrev LAID:List (String × DataW Unit):=[("cambium/sum.shifted",Rows.laid_cambium_sum_shifted)]
theorem qp8 (os:Os)(args:Array Value):laidMetH Tryz.prog LAID ((World.doorLaid Tryz.prog 400 os).forCall (fun _ _=>0) ⟨#[],args,[]⟩).memory:=
 laidMetH_of_parts3 (fuel:=8) (laidMet_of_run' 8 (by kernel_rfl) (by kernel_rfl)) (by kernel_rfl) (by kernel_rfl)
theorem qp9 {W:World}(h:laidMetH Tryz.prog LAID W):Tab W:=by
 rw[MakeChecks.laidMetH_plain _ _ _ (by kernel_rfl)] at h
 have hc:∀k:Nat,k<16→W.cell? ⟨1,k,none⟩=some (.int .u32 (([0,274646895,549293790,820201905,1098587580,1361435347,1640403810,1905808397,2197175160,2460548119,2722870694,2987750089,3280807620,3553878443,3811616794,4084100981]:List Int).getD k 0)):=fun k hk=>
  qmj (zs:=[0,274646895,549293790,820201905,1098587580,1361435347,1640403810,1905808397,2197175160,2460548119,2722870694,2987750089,3280807620,3553878443,3811616794,4084100981]) (g:=1) (by kernel_rfl) (by kernel_rfl) Tryz.underlying272 Tryz.underlying176 (by kernel_rfl) h k hk
 have hz:∀k:Nat,k<16→([0,274646895,549293790,820201905,1098587580,1361435347,1640403810,1905808397,2197175160,2460548119,2722870694,2987750089,3280807620,3553878443,3811616794,4084100981]:List Int).getD k 0=(st4 k:Nat):=by decide +kernel
 exact⟨by have:=World.block_lt_of_cell? W _ (hc 0 (by omega));exact this,fun k hk=>by rw[hc k hk,hz k hk]⟩
end
end Go.Proofs.YtipejjgodnnkaaaGreatDoor
