/- Superblocks: the code's mayVol, named and May -/
import Derived.Test.YthkfkhejjmhomaaGreatDoorEs12
namespace Go.Proofs.YthkfkhejjmhomaaGreatDoor
open Go Go.RowKit Go.Proofs
set_option maxHeartbeats 4000000
set_option maxRecDepth 100000
def Vl.ok (v:Vl)(n:Int):Bool:=Dh v.name&&(decide (0<=v.root/\v.root<=n-1)&&decide (2<=v.next/\v.next<=2147483647))
def Ky (l:List Vl)(s:ByteArray):Bool:=l.any λu=>u.name.toList==s.toList
def Sp.ok1 (S:Sp)(i:Nat):Bool:=(S.at_ i).same Vl.zero||((S.at_ i).ok S.Qb&&!Ky (S.Jq.take i) (S.at_ i).name)
def Sp.hd (S:Sp):Bool:=decide (1<=S.gen/\S.gen<=1099511627775/\32<=S.Qb/\S.Qb<=2048/\0<=S.log/\S.log<=S.Qb-1)
def Sp.may (S:Sp):Bool:=S.hd&&(List.range 8).all S.ok1
def Sp.fine (S:Sp):Prop:=∀k,k<8->(S.at_ k).name.size<=maxLen
theorem qvy {S:Sp}{j:Nat}(b:j<8)(h:S.ok1 j=false):S.may=false:=by
 have:(List.range 8).all S.ok1=false:=by
  rw[List.all_eq_false];exact⟨j,List.mem_range.2 b,by rw[h];simp⟩
 unfold Sp.may;rw[this,Bool.and_false]
theorem qof {S:Sp}(h0:S.hd=true)(h:∀j,j<8->S.ok1 j=true):S.may=true:=by
 have:(List.range 8).all S.ok1=true:=by
  rw[List.all_eq_true];exact λj b=>h j (List.mem_range.1 b)
 unfold Sp.may;rw[this,h0];rfl
theorem qog {S:Sp}(h:S.hd=false):S.may=false:=by unfold Sp.may;rw[h,Bool.false_and]
theorem q69 (v:Vl)(n:Int)(h1:32<=n)(h2:n<=2048)(r:Bool)(y:v.ok n=r)(hm:v.name.size<=maxLen)(w:World) :
  Calls Tryz.prog 126 #[.agg #[.string v.name,.bool v.ro,.int .i64 v.root,.int .i64 v.next],.int .i64 n] w λe A=>e=.returned (.bool r)/\Below w.1.size w A:=by
 subst y;obtain⟨a,m⟩:∃a,Dh v.name=a:=⟨_,rfl⟩;obtain⟨b,p⟩:∃b,decide (0<=v.root/\v.root<=n-1)=b:=⟨_,rfl⟩;obtain⟨c,u⟩:∃c,decide (2<=v.next/\v.next<=2147483647)=c:=⟨_,rfl⟩;have d:=Lib.hid (show v.ok n=(a&&(b&&c)) by unfold Vl.ok;rw[m,p,u]);go_enter Tryz.func126,Tryz.ntmps126
 cases a
 ·go_wp2_with (first
   |(go_at_call 201;refine (q7u v.name false m _ hm).mono ?_;rintro e f ⟨rfl,rfl⟩)
   |fail)
  go_ret;exact⟨by rw[d.out];rfl,Qn⟩
 ·cases b
  ·go_wp2_with (first
    |(go_at_call 201;refine (q7u v.name true m _ hm).mono ?_;rintro e f ⟨rfl,rfl⟩)
    |(go_at_call 125;refine (Rk v.root 0 (n-1) false p _).mono ?_;rintro e f ⟨rfl,rfl⟩)
    |fail)
   go_ret;exact⟨by rw[d.out];rfl,Qn⟩
  ·go_wp2_with (first
    |(go_at_call 201;refine (q7u v.name true m _ hm).mono ?_;rintro e f ⟨rfl,rfl⟩)
    |fail)
   refine (Rk v.root 0 (n-1) true p _).mono ?_;rintro e f ⟨rfl,rfl⟩;go_wp2_with fail
   refine (Rk v.next 2 2147483647 c u _).mono ?_;rintro e f ⟨rfl,rfl⟩;go_wp2;go_ret;exact⟨by rw[d.out];rfl,Qn⟩
def Cc (l:List Vl)(j:Nat):Vl:=l.getD j Vl.zero
theorem qdp {l:List Vl}{j:Nat}(h:j<l.length):l[j]?=some (Cc l j):=by simp[Cc,List.getD,h]
def Fq (w:World)(A:Option Addr)(n c:Nat)(l:List Vl):Prop:=Js w 4 A n c (l.map Vl.vs)
theorem Fq.len {w:World}{A:Option Addr}{n c:Nat}{l:List Vl}(h:Fq w A n c l):l.length=n:=by simpa using Js.len h
theorem Fq.cell {w:World}{A:Option Addr}{n c:Nat}{l:List Vl}(h:Fq w A n c l){j:Nat}(hj:j<n):∃g o,A=some ⟨g,o,none⟩/\g<w.1.size/\w.cell? ⟨g,o+j*4,none⟩=some (.string (Cc l j).name)/\w.cell? ⟨g,o+j*4+1,none⟩=some (.bool (Cc l j).ro)/\
  w.cell? ⟨g,o+j*4+2,none⟩=some (.int .i64 (Cc l j).root)/\w.cell? ⟨g,o+j*4+3,none⟩=some (.int .i64 (Cc l j).next):=by
 have e:=h.len;obtain⟨g,o,rfl,d,_,b⟩:=h.2.2.2 j (Cc l j).vs (by rw[List.getElem?_map,qdp (by omega)];rfl);exact⟨g,o,rfl,d,b 0 _ rfl,b 1 _ rfl,b 2 _ rfl,b 3 _ rfl⟩
theorem qoh {l:List Vl}{s:ByteArray}{j:Nat}(b:j<l.length)(h:((Cc l j).name.toList==s.toList)=true):Ky l s=true:=by
 unfold Ky;rw[List.any_eq_true];exact⟨_,List.mem_of_getElem? (qdp b),h⟩
theorem qt3 {l:List Vl}{s:ByteArray}(h:∀j,j<l.length->((Cc l j).name.toList==s.toList)=false):Ky l s=false:=by
 unfold Ky;rw[List.any_eq_false];intro u d;obtain⟨j,b,rfl⟩:=List.getElem_of_mem d;have:=h j b;have e:=qdp b;rw[List.getElem?_eq_getElem b] at e;injection e with e;rw[<-e] at this;rw[this];simp
theorem qc0 (l:List Vl)(s:ByteArray)(r:Bool)(E:Ky l s=r)(A:Option Addr)(n c:Nat)(w:World)(h:Fq w A n c l)(_:n<=100000) :
  Calls Tryz.prog 127 #[.slice A n c,.string s] w λe O=>e=.returned (.bool r)/\Below w.1.size w O:=by
 subst E;have b:=Lib.hid h.len;have J:=Js.cap h;have p:=Js.max h;unfold maxLen at p;go_enter Tryz.func127,Tryz.ntmps127
 go_wp2_with fail
 go_loopw [9] (λi wr=>∃j:Nat,j<=n/\i=.int .i64 (j:Int)/\(∀q,q<j->((Cc l q).name.toList==s.toList)=false)/\Below w.1.size w wr) (λi _=>n-(intOf i).toNat)
 case atStart=>exact⟨0,Nat.zero_le _,rfl,λq B=>by omega,Below.refl _ _⟩
 case round=>
  obtain⟨j,R,rfl,d,f⟩:=hrel;by_cases m:j<n
  ·have E:Fq wr A n c l:=Js.below h f;obtain⟨g,o,I,Q,c0,c1,c2,c3⟩:=E.cell m;subst I;obtain⟨x,F⟩:∃x,Cc l j=x:=⟨_,rfl⟩;rw[F] at c0 c1 c2 c3;have G:=Lib.hid F;clear F;have K:(0:Int)<=(j:Int):=by omega
   have H:Below wr.1.size wr (wr.alloc (.cells #[.string x.name,.bool x.ro,.int .i64 x.root,.int .i64 x.next] 117)):=Qn
   cases B:x.name.toList==s.toList
   ·go_wp2;refine⟨⟨j+1,by omega,by go_num,λq M=>?_,f.trans (H.mono f.size)⟩,by simp[intOf];omega⟩;by_cases D:q=j
    ·rw[D,G.out];exact B
    ·exact d q (by omega)
   ·go_wp2;go_ret;exact⟨by rw[qoh (j:=j) (by rw[b.out];exact m) (by rw[G.out];exact B)];rfl,f.trans (H.mono f.size)⟩
  ·have u:j=n:=by omega
   have y:=Lib.hid (qt3 (l:=l) (s:=s) (by rw[b.out,<-u];exact d));go_wp2;go_ret;exact⟨by rw[y.out];rfl,f⟩
def Af (s:ByteArray):List UInt8:=s.data.toList++List.replicate (10-s.size) 0
def Xn (v:Vl):List UInt8:=Zc (v.name.size:Int) 1++(Af v.name++(Zc (Ob v.ro) 1++(Zc v.root 2++Zc v.next 4)))
def Zw (S:Sp)(k:Nat):List UInt8:=Zc S.Qb 2++(Zc S.log 2++(S.Jq.take k).flatMap Xn)
theorem q9a (s:ByteArray)(h:s.size<=10):(Af s).length=10:=by unfold Af;simp;omega
theorem qt4 (v:Vl)(h:v.name.size<=10):(Xn v).length=18:=by unfold Xn;simp[q9a _ h,Ya]
theorem qa6 (S:Sp):Zw S 0=Zc S.Qb 2++Zc S.log 2:=by unfold Zw;simp
theorem qa7 (S:Sp){k:Nat}(b:k<8):Zw S (k+1)=Zw S k++Xn (S.at_ k):=by
 unfold Zw;have h:=S.get b;have d:k<S.Jq.length:=by rw[S.len];exact b
 rw[List.getElem?_eq_getElem d] at h;rw[List.take_succ_eq_append_getElem d,List.flatMap_append,Option.some.inj h];simp
theorem J6 (S:Sp)(k:Nat)(b:k<=8)(h:∀j,j<8->(S.at_ j).name.size<=10):(Zw S k).length=4+18*k:=by
 induction k with
 |zero=>rw[qa6];simp[Ya]
 |succ k ih=>rw[qa7 S (by omega),List.length_append,ih (by omega),qt4 _ (h k (by omega))];omega
theorem q7v (A:Option Addr)(k c:Nat)(l:List UInt8)(x n:Int)(w:World)(h:Sl w A k c l)(u:k<=17592186044416)(h1:1<=n)(h2:n<=8) :
  Calls Tryz.prog 180 #[.slice A k c,.int .i64 x,.int .i64 n] w λe m=>∃d b f,e=.returned (.slice d b f)/\Own m w.1.size 5 d b f (l++Zc x n.toNat)/\(b<=k+n.toNat/\k+n.toNat<=b)/\Below w.1.size w m:=by
 refine (qaf A k c l x n w h u).mono ?_;rw[qyb l x n h1 h2];rintro e m ⟨d,b,f,rfl,own,p⟩;have:=own.len;rw[List.length_append,Ya,h.len] at this;exact⟨d,b,f,rfl,own,⟨by omega,by omega⟩,p⟩
section
variable {P:Program}{w:World}
theorem qf9 (u H ty e:TypeId)(g n:Nat)(l:List UInt8)(A:TypeId)(d:ByteArray)(G:P.underlying u=some (.slice e))(F:(P.info? e).map (·.size)=some 1)
  (E:w.1[g]?=some (.cells (l.map bv).toArray A (0,0))) (hn:l.length=n) (p:d.size<=n) :
  (Builtin.copy_ #[u,H] ty #[.slice (some ⟨g,0,none⟩) n n,.string d]).run P w=.ok (goInt d.size) (w.setRow g ((splice l 0 d.data.toList).map bv).toArray):=by
 have f:(d.data.toList.map bv).length=d.size:=by simp
 have m:=run_storeCells_at P g 0 A (d.data.toList.map bv) 0 (l.map bv).toArray w E (by rw[f];simp;omega) (qf3 _);have hm:Nat.min d.size n=d.size:=Nat.min_eq_left p;have I:(Array.map (λb:UInt8=>Value.int .u8 (b.toNat:Int)) (d.extract 0 d.size).data).toList=d.data.toList.map bv:=by
  have:d.extract 0 d.size=d:=by ext1;simp
  rw[this];simp[bv]
 have B:((l.map bv).toArray.toList.take (0+0)++d.data.toList.map bv++(l.map bv).toArray.toList.drop (0+0+(d.data.toList.map bv).length))=(splice l 0 d.data.toList).map bv:=by
  unfold splice;simp
 rw[B] at m
 cases y:P.info? e with
 |none=>simp[y] at F
 |some i=>
  simp only[Builtin.copy_,Builtin.lenOf,Builtin.firstCells,sizeOf,typeInfo];simp only[List.getElem?_toArray,List.getElem?_cons_zero,List.getElem?_cons_succ,Sem.run_bind];simp[run_underlying G,y,hm];have D:List.take d.size (List.map (λb:UInt8=>Value.int .u8 (b.toNat:Int)) d.data.toList)=d.data.toList.map bv:=by
   rw[List.take_of_length_le (by simp)];rfl
  rw[D,m];rfl
theorem qhu {ops:Array Oper}{o:Oper}{a:Act}{K:Act->World->Prop}{Q:Exit->Act->World->Prop}{E:Prop}(y:o.guard=none)(d s:Operand)(u G e:TypeId)
  (M:o.op=.call { callee:=.builtin .copy,args:=#[d,s],argTypes:=#[u,G] }) (R:P.underlying u=some (.slice e)) (O:(P.info? e).map (·.size)=some 1)
  (base g n:Nat) (l:List UInt8) (p:TypeId) (f:Own w base p (some ⟨g,0,none⟩) n n l) (b:ByteArray) (hd:a.eval d=.slice (some ⟨g,0,none⟩) n n) (T:a.eval s=.string b) (A:b.size<=n)
  (I:∀B,Own B base p (some ⟨g,0,none⟩) n n (splice l 0 b.data.toList)->Below g w B->K (a.put o.dst (goInt b.size)) B):if Region.wanted o (yielded ops a.tmps)=true then Oper.wp P o a w K Q else E:=by
 rw[if_pos (by simp[Region.wanted,y])];obtain⟨J,D,hm⟩:=f.whole;have F:=f.len;have m:=qf9 (P:=P) u G o.type e g n l p b R O D F A;have h2:Own (w.setRow g ((splice l 0 b.data.toList).map bv).toArray) base p (some ⟨g,0,none⟩) n n (splice l 0 b.data.toList):=
  Own.of_whole J (setRow_heap w g _ _ p _ D) (by rw[length_splice _ _ _ (by simp;omega),F]) hm
 have H:Below g w (w.setRow g ((splice l 0 b.data.toList).map bv).toArray):=below_setRow (Below.refl _ _) (Nat.le_refl _) _;unfold Oper.wp execOp;simp only[M,resolve,invoke,builtin,Sem.run_bind,Sem.run_pure,Result.andThen_ok,List.map_toArray,List.map_cons,List.map_nil,hd,T,m];exact I _ h2 H
theorem qbt {t e:TypeId}(T:Y6 P t e){ops:Array Oper}{o:Oper}{a:Act}{K:Act->World->Prop}{Q:Exit->Act->World->Prop}{E:Prop}(F:o.guard=none)(s x:Operand)
  (J:o.op=.call { callee:=.builtin .append,args:=#[s,x],argTypes:=#[t,t] })
  (base:Nat) (A:Option Addr) (n c:Nat) (l:List UInt8) (O:a.eval s=.slice A n c) (f:Own w base e A n c l)
  (B:Option Addr) (m d:Nat) (H:List UInt8) (R:a.eval x=.slice B m d) (M:Sl w B m d H) (G:n+m<=140737488355328) (b:base<=w.1.size)
  (h:∀y D u,Own u base e y (n+m) D (l++H)->Below base w u->K (a.put o.dst (.slice y (n+m) D)) u) :
  if Region.wanted o (yielded ops a.tmps)=true then Oper.wp P o a w K Q else E:=by
 rw[if_pos (by simp[Region.wanted,F])];obtain⟨y,D,u,p,h2,I,_⟩:=q6n (P:=P) w T o.type base A n c l f B m d H M G b;unfold Oper.wp execOp;simp only[J,resolve,invoke,builtin,Sem.run_bind,Sem.run_pure,Result.andThen_ok,List.map_toArray,List.map_cons,List.map_nil,O,R,p];exact h y D u h2 I
end
theorem qwj (b:Nat)(w:World):(Instr.sliceAt 345 (.pointer (some ⟨b,0,none⟩)) none none none).run Tryz.prog w=.ok (.slice (some ⟨b,0,none⟩) 10 10) w:=by
 have d:Tryz.prog.arrayLen 345=10:=by kernel_rfl
 have e:(sizeOf (Tryz.prog.elem 345)).run Tryz.prog w=.ok 1 w:=by kernel_rfl
 rw[run_sliceAt_array_all w 345 _ (by kernel_rfl),e,d];simp[slicedAt,Result.andThen,Addr.add_mid]
theorem qlw (s:ByteArray)(_:s.size<=10):splice (List.replicate 10 0) 0 s.data.toList=Af s:=by
 have e:splice (List.replicate 10 (0:UInt8)) 0 s.data.toList=s.data.toList++(List.replicate 10 (0:UInt8)).drop s.data.toList.length:=by unfold splice;rw[List.take_zero,List.nil_append,Nat.zero_add]
 rw[e,List.drop_replicate];rfl
theorem qlx (v:Vl)(hv:v.name.size<=10)(A:Option Addr)(n c:Nat)(l:List UInt8)(w:World)(hs:Sl w A n c l)(hn:n<=100000) :
  Calls Tryz.prog 244 #[.slice A n c,.agg #[.string v.name,.bool v.ro,.int .i64 v.root,.int .i64 v.next]] w λe b=>
   ∃A' n' c',e=.returned (.slice A' n' c')/\Own b w.1.size 5 A' n' c' (l++Xn v)/\n'=n+18/\Below w.1.size w b:=by
 have b0:=Lib.hid hs.len;go_enter Tryz.func244,Tryz.ntmps244
 go_wp2_with fail
 generalize H:w.alloc (.cells #[.string v.name,.bool v.ro,.int .i64 v.root,.int .i64 v.next] 117)=m;have V1:VB m w.1.size v:=by rw[<-H];exact VB.new w v _
 have b1:Below w.1.size w m:=by rw[<-H];exact Qn
 have z1:m.1.size=w.1.size+1:=by rw[<-H];simp
 rw[<-z1];clear H;have X:Own (m.alloc (.cells ((List.replicate 10 (0:UInt8)).map bv).toArray 345)) m.1.size 345 (some ⟨m.1.size,0,none⟩) 10 10 (List.replicate 10 0):=
  Own.of_whole (Nat.le_refl _) (heap_alloc_new m _) (by simp) (by unfold maxLen;omega)
 have Y:Below m.1.size m (m.alloc (.cells ((List.replicate 10 (0:UInt8)).map bv).toArray 345)):=Qn;rw[show ((List.replicate 10 (0:UInt8)).map bv).toArray=#[.int .u8 0,.int .u8 0,.int .u8 0,.int .u8 0,.int .u8 0,.int .u8 0,.int .u8 0,.int .u8 0,.int .u8 0,.int .u8 0] from rfl] at X Y;generalize m.alloc (.cells #[.int .u8 0,.int .u8 0,.int .u8 0,.int .u8 0,.int .u8 0,.int .u8 0,.int .u8 0,.int .u8 0,.int .u8 0,.int .u8 0] 345)=I at X Y ⊢;have V2:=V1.below Y V1.lt;have z2:m.1.size<=I.1.size:=Y.size;have K:m.1.size<I.1.size:=(X.block _ rfl).2;have B2:Below w.1.size w I:=b1.trans (Y.mono (by omega));obtain⟨u,a4⟩:∃u,m.1.size=u:=⟨_,rfl⟩;have a9:=λb=>qwj u b
 rw[a4] at X K ⊢;have U:w.1.size<u:=by omega
 have q2:=V2.c0;obtain⟨ps,W⟩:∃ps,splice (List.replicate 10 (0:UInt8)) 0 v.name.data.toList=ps:=⟨_,rfl⟩;have M:=Lib.hid (W.symm.trans (qlw v.name hv));have J:∀b:World,Below u I b->b.cell? ⟨w.1.size,0,none⟩=some (.string v.name)/\Below u I b:=λb hb=>⟨(hb.cell (p:=⟨w.1.size,0,none⟩) U).trans q2,hb⟩
 have R:Below u I I.drew:=(Below.refl _ _).drew;go_region_held3 (λb=>b.cell? ⟨w.1.size,0,none⟩=some (.string v.name)/\Below u I b)
  (first|assumption|exact J _ R|exact J _ F)
  (first
   |(refine qhu rfl (.tmp 6) (.tmp 8) 48 9 5 rfl Tryz.underlying48 (by kernel_rfl) u u 10 (List.replicate 10 0) 345 (by first|exact X|exact X.drew) v.name rfl rfl hv ?_;intro d f T;rw[W] at f;have F:Below u I d:=(by first|exact R.trans T|exact T))
   |fail)
 have Z:Below w.1.size w d:=B2.trans (F.mono (by omega));have V3:=V2.below F U;have a5:=hs.below Z;have z3:=(f.block _ rfl).2;rw[M.out] at f;clear J R X hs q2 V2 V1 b1 Y B2 F T W;go_wp2_with fail
 have q3:=V3.c0;have J:∀b:World,Below d.1.size d b->b.cell? ⟨w.1.size,0,none⟩=some (.string v.name)/\Below d.1.size d b:=λb hb=>⟨(hb.cell (p:=⟨w.1.size,0,none⟩) V3.lt).trans q3,hb⟩
 have R:Below d.1.size d d.drew:=(Below.refl _ _).drew;have z4:d.1.size<=d.drew.1.size:=Nat.le_refl _;have p1:(1:Int)<=1:=by omega
 have p2:(1:Int)<=8:=by omega
 have p3:n<=17592186044416:=by omega
 have B:=f.sl;go_region_held3 (λb=>b.cell? ⟨w.1.size,0,none⟩=some (.string v.name)/\Below d.1.size d b)
  (first|assumption|exact J _ R|exact J _ y|exact J _ G)
  (first
   |((refine qbt Az rfl (.tmp 14) (.tmp 15) rfl d.1.size A5 n5 c5 _ rfl O (some ⟨u,0,none⟩) 10 10 (Af v.name) rfl (B.below y) p5 y.size ?_);intro A6 c6 w6 E a1;have G:Below d.1.size d w6:=y.trans a1)
   |(go_at_call 180;refine (q7v A n c _ (v.name.size:Int) 1 _ a5.drew p3 p1 p2).mono ?_;rintro e w5 ⟨A5,n5,c5,rfl,D,b3,a0⟩;have O:Own w5 d.1.size 5 A5 n5 c5 _:=D;have y:Below d.1.size d w5:=R.trans (a0.mono z4);have p5:n5+10<=140737488355328:=by omega)
   |fail)
 all_goals
  have V6:=V3.below G V3.lt;have B6:=Z.trans (G.mono Z.size);have E:=E.less Z.size;clear J R O D a0 a1 y G f B a5 V3 Z a9 p5 z4 M z1 a4 K U z2 z3 q3;have q6:=V6.c1;go_wp2_with fail
  refine (qlv v.ro _).mono ?_;rintro e w7 ⟨rfl,rfl⟩;go_wp2_with fail
  refine (q7v A6 (n5+10) c6 _ (Ob v.ro) 1 _ E.sl (by omega) (by omega) (by omega)).mono ?_;rintro e w7 ⟨A7,n7,c7,rfl,a6,b4,a2⟩;have V7:=V6.below a2 V6.lt;have B7:=B6.trans (a2.mono B6.size);have q7:=V7.c2;clear q6;go_wp2_with fail
  refine (q7v A7 n7 c7 _ v.root 2 _ a6.sl (by omega) (by omega) (by omega)).mono ?_;rintro e w8 ⟨A8,n8,c8,rfl,a7,b5,a3⟩;have V8:=V7.below a3 V7.lt;have B8:=B7.trans (a3.mono B7.size);have q8:=V8.c3;clear q7;go_wp2_with fail
  refine (q7v A8 n8 c8 _ v.next 4 _ a7.sl (by omega) (by omega) (by omega)).mono ?_;rintro e w9 ⟨A9,n9,c9,rfl,Q,b6,a8⟩;have B9:=B8.trans (a8.mono B8.size);go_wp2;go_ret;refine⟨A9,n9,c9,rfl,?_,by omega,B9⟩;have e9:l++Zc (v.name.size:Int) (1:Int).toNat++Af v.name++Zc (Ob v.ro) (1:Int).toNat++Zc v.root (2:Int).toNat++Zc v.next (4:Int).toNat=l++Xn v:=by
   unfold Xn;simp only[List.append_assoc];rfl
  rw[e9] at Q;exact Q.less B8.size
theorem qyh (b:BinOp)(x y:Operand)(xs ys:Array Value)(w:World):(eqGuard b 117 x y (.agg xs) (.agg ys)).run Tryz.prog w=.ok () w:=
 run_eqGuard_agg w b 117 x y xs ys (by kernel_rfl)
theorem qyi (x:Vl)(r:Bool)(h:x.same Vl.zero=r)(w:World):(binOp .neq 117 (.agg #[.string x.name,.bool x.ro,.int .i64 x.root,.int .i64 x.next]) (.agg #[.string ⟨#[]⟩,.bool false,.int .i64 0,.int .i64 0])).run Tryz.prog w=.ok (.bool (!r)) w:=qye x Vl.zero r h w
theorem SB.Qbf {w:World}{b:Nat}{S:Sp}(H:SB w b S){k:Nat}(hk:k<=8):Fq w (some ⟨b,3,none⟩) k 8 (S.Jq.take k):=by
 have:=H.Kt.take hk;unfold Fq;rwa [List.map_take]
theorem Qco (b k:Nat)(f:k<=8)(w:World):(Instr.sliceAt 118 (.pointer (some ⟨b,3,none⟩)) none (some (.int .i64 (k:Int))) none).run Tryz.prog w=.ok (.slice (some ⟨b,3,none⟩) k 8) w:=by
 have d:Tryz.prog.arrayLen 118=8:=by kernel_rfl
 have e:(sizeOf (Tryz.prog.elem 118)).run Tryz.prog w=.ok 4 w:=by kernel_rfl
 rw[run_sliceAt_array_h w 118 _ (by kernel_rfl) .i64 _ (by omega) (by rw[d];omega),e,d];simp[slicedAt,Result.andThen,Addr.add_mid]
theorem qt5 (S:Sp)(r:Bool)(hr:S.may=r)(hf:S.fine)(w:World) :
  Calls Tryz.prog 76 #[.agg S.vs.toArray] w λe w'=>e=.returned (.bool r)/\Below w.1.size w w':=by
 subst hr;have H:=SB.new w S 120;have B:Below w.1.size w (w.alloc (.cells S.vs.toArray 120)):=Qn;have q0:=H.c0;have q1:=H.c1;have q2:=H.c2;go_enter Tryz.func76,Tryz.ntmps76
 go_wp2_with fail
 generalize w.alloc (.cells S.vs.toArray 120)=w1 at H B q0 q1 q2 ⊢;by_cases hg:1<=S.gen/\S.gen<=1099511627775
 ·refine (Rk S.gen 1 1099511627775 true (decide_eq_true hg) _).mono ?_;rintro e T ⟨rfl,rfl⟩;go_wp2_with fail
  by_cases G:32<=S.Qb/\S.Qb<=2048
  ·refine (Rk S.Qb 32 2048 true (decide_eq_true G) _).mono ?_;rintro e T ⟨rfl,rfl⟩;go_wp2_with fail
   by_cases hl:0<=S.log/\S.log<=S.Qb-1
   ·refine (Rk S.log 0 (S.Qb-1) true (decide_eq_true hl) _).mono ?_;rintro e T ⟨rfl,rfl⟩;have a0:S.hd=true:=decide_eq_true (by omega);have O:=Lib.hid (λh=>qof (S:=S) a0 h);go_wp2_with (first
     |(refine qlu rfl (.tmp 24) rfl w.1.size rfl S H ?_)
     |fail)
    go_loopw [26] (λi wr=>∃k:Nat,k<=8/\i=.int .i64 (k:Int)/\(∀j<k,S.ok1 j=true)/\Below w1.1.size w1 wr) (λi _=>8-(intOf i).toNat)
    case atStart=>exact⟨0,by omega,rfl,λj hj=>by omega,Below.refl _ _⟩
    case round=>
     obtain⟨k,hk,rfl,A,X⟩:=hrel;by_cases D:k<8
     ·have Q:=qyd S D;have a3:(0:Int)<=(k:Int):=by omega
      obtain⟨x,hx⟩:∃x,S.at_ k=x:=⟨_,rfl⟩;have F:=hf k D;rw[hx] at Q F;have f:=Lib.hid (show S.ok1 k=(x.same Vl.zero||(x.ok S.Qb&&!Ky (S.Jq.take k) x.name)) by unfold Sp.ok1;rw[hx]);clear hx;have Hr:=H.below X H.lt;go_wp2_with fail
      have bx:Below wr.1.size wr (wr.alloc (.cells #[.string x.name,.bool x.ro,.int .i64 x.root,.int .i64 x.next] 117)):=Qn;have M:(wr.alloc (.cells #[.string x.name,.bool x.ro,.int .i64 x.root,.int .i64 x.next] 117)).1[wr.1.size]?=some (.cells #[.string x.name,.bool x.ro,.int .i64 x.root,.int .i64 x.next] 117 (0,0)):=heap_alloc_new wr _;have W:wr.1.size<(wr.alloc (.cells #[.string x.name,.bool x.ro,.int .i64 x.root,.int .i64 x.next] 117)).1.size:=by simp
      generalize wr.alloc (.cells #[.string x.name,.bool x.ro,.int .i64 x.root,.int .i64 x.next] 117)=U at bx M W ⊢;have K:=Hr.below bx Hr.lt;have q0:∀u:Grown U,u.to.cell? ⟨wr.1.size,0,none⟩=some (.string x.name):=Grown.cell (by rw[cell_of_row _ _ _ _ _ _ M];rfl) W;have q1:∀u:Grown U,u.to.cell? ⟨wr.1.size,1,none⟩=some (.bool x.ro):=Grown.cell (by rw[cell_of_row _ _ _ _ _ _ M];rfl) W;have q2:∀u:Grown U,u.to.cell? ⟨wr.1.size,2,none⟩=some (.int .i64 x.root):=Grown.cell (by rw[cell_of_row _ _ _ _ _ _ M];rfl) W;have q3:∀u:Grown U,u.to.cell? ⟨wr.1.size,3,none⟩=some (.int .i64 x.next):=Grown.cell (by rw[cell_of_row _ _ _ _ _ _ M];rfl) W;have q4:∀u:Grown U,u.to.cell? ⟨w.1.size,1,none⟩=some (.int .i64 S.Qb):=Grown.cell K.c1 K.lt;have b:=X.trans (bx.mono X.size);have hG:=qyh;have a4:=Qco w.1.size k (by omega);clear M Q;obtain⟨z,Y⟩:∃z,x.same Vl.zero=z:=⟨_,rfl⟩;have a2:=qyi x z Y
      cases z
      ·obtain⟨m,p⟩:∃m,x.ok S.Qb=m:=⟨_,rfl⟩
       cases m
       ·have J:=Lib.hid (qvy (S:=S) D (by rw[f.out,Y,p];rfl));refine Ua (by kernel_rfl) (by kernel_rfl) ?_;repeat (go_big_quiet_step (first
         |(go_at_call 126;exact Calls.grown (q69 x S.Qb G.1 G.2 false p F _))
         |fail))
        refine wpQuiet_nil ?_;rintro _ ⟨u,rfl⟩;have d:=b.trans (u.ok.mono b.size);go_wp2;go_ret;exact⟨by rw[J.out];rfl,B.trans (d.mono B.size)⟩
       ·obtain⟨nm,E⟩:∃nm,Ky (S.Jq.take k) x.name=nm:=⟨_,rfl⟩
        cases nm
        ·have Z:=Lib.hid (show (x.same Vl.zero||(x.ok S.Qb&&!Ky (S.Jq.take k) x.name))=true by rw[p,E];simp);refine Ua (by kernel_rfl) (by kernel_rfl) ?_;repeat (go_big_quiet_step (first
          |(go_at_call 126;exact Calls.grown (q69 x S.Qb G.1 G.2 true p F _))
          |(go_at_call 127;exact Calls.grown (qc0 (S.Jq.take k) x.name false E _ k 8 _ ((K.below (Grown.ok _) K.lt).Qbf (by omega)) (by omega)))
          |fail))
         refine wpQuiet_nil ?_;rintro _ ⟨u,rfl⟩;have d:=b.trans (u.ok.mono b.size);go_wp2;refine⟨⟨k+1,by omega,by go_num,λj hj=>?_,d⟩,by simp[intOf];omega⟩;by_cases I:j=k
         ·rw[I,f.out,Z.out]
         ·exact A j (by omega)
        ·have J:=Lib.hid (qvy (S:=S) D (by rw[f.out,Y,p,E];rfl));refine Ua (by kernel_rfl) (by kernel_rfl) ?_;repeat (go_big_quiet_step (first
          |(go_at_call 126;exact Calls.grown (q69 x S.Qb G.1 G.2 true p F _))
          |(go_at_call 127;exact Calls.grown (qc0 (S.Jq.take k) x.name true E _ k 8 _ ((K.below (Grown.ok _) K.lt).Qbf (by omega)) (by omega)))
          |fail))
         refine wpQuiet_nil ?_;rintro _ ⟨u,rfl⟩;have d:=b.trans (u.ok.mono b.size);go_wp2;go_ret;exact⟨by rw[J.out];rfl,B.trans (d.mono B.size)⟩
      ·have Z:=Lib.hid (show (x.same Vl.zero||(x.ok S.Qb&&!Ky (S.Jq.take k) x.name))=true by rw[Y];rfl);refine Ua (by kernel_rfl) (by kernel_rfl) ?_;repeat (go_big_quiet_step (first
        |fail))
       refine wpQuiet_nil ?_;rintro _ ⟨u,rfl⟩;have d:=b.trans (u.ok.mono b.size);go_wp2;refine⟨⟨k+1,by omega,by go_num,λj hj=>?_,d⟩,by simp[intOf];omega⟩;by_cases I:j=k
       ·rw[I,f.out,Z.out]
       ·exact A j (by omega)
     ·have a1:k=8:=by omega
      have R:=Lib.hid (O.out (by rw[<-a1];exact A));go_wp2;go_ret;exact⟨by rw[R.out];rfl,B.trans (X.mono B.size)⟩
   ·refine (Rk S.log 0 (S.Qb-1) false (decide_eq_false hl) _).mono ?_;rintro e T ⟨rfl,rfl⟩;have y:=Lib.hid (qog (S:=S) (decide_eq_false (by omega)));go_wp2;go_ret;exact⟨by rw[y.out];rfl,B⟩
  ·refine (Rk S.Qb 32 2048 false (decide_eq_false G) _).mono ?_;rintro e T ⟨rfl,rfl⟩;have y:=Lib.hid (qog (S:=S) (decide_eq_false (by omega)));go_wp2;go_ret;exact⟨by rw[y.out];rfl,B⟩
 ·refine (Rk S.gen 1 1099511627775 false (decide_eq_false hg) _).mono ?_;rintro e T ⟨rfl,rfl⟩;have y:=Lib.hid (qog (S:=S) (decide_eq_false (by omega)));go_wp2;go_ret;exact⟨by rw[y.out];rfl,B⟩
