/- Superblocks: the code's mayVol, named and May -/
import Derived.Test.YthkfkhejjmhomaaGreatDoorDz11
namespace Go.Proofs.YthkfkhejjmhomaaGreatDoor
open Go Go.RowKit Go.Proofs
set_option maxHeartbeats 4000000
set_option maxRecDepth 100000
def Vl.ok (v:Vl)(n:Int):Bool:=X6 v.name&&(decide (0<=v.root/\v.root<=n-1)&&decide (2<=v.next/\v.next<=2147483647))
def Yr (l:List Vl)(s:ByteArray):Bool:=l.any λu=>u.name.toList==s.toList
def Sp.ok1 (S:Sp)(i:Nat):Bool:=(S.at_ i).same Vl.zero||((S.at_ i).ok S.Qa&&!Yr (S.Zp.take i) (S.at_ i).name)
def Sp.hd (S:Sp):Bool:=decide (1<=S.gen/\S.gen<=1099511627775/\32<=S.Qa/\S.Qa<=2048/\0<=S.log/\S.log<=S.Qa-1)
def Sp.may (S:Sp):Bool:=S.hd&&(List.range 8).all S.ok1
def Sp.fine (S:Sp):Prop:=∀k,k<8->(S.at_ k).name.size<=maxLen
theorem Qzs {S:Sp}{j:Nat}(d:j<8)(h:S.ok1 j=false):S.may=false:=by
 have:(List.range 8).all S.ok1=false:=by
  rw[List.all_eq_false];exact⟨j,List.mem_range.2 d,by rw[h];simp⟩
 unfold Sp.may;rw[this,Bool.and_false]
theorem Fj {S:Sp}(h0:S.hd=true)(h:∀j,j<8->S.ok1 j=true):S.may=true:=by
 have:(List.range 8).all S.ok1=true:=by
  rw[List.all_eq_true];exact λj d=>h j (List.mem_range.1 d)
 unfold Sp.may;rw[this,h0];rfl
theorem Qr2 {S:Sp}(h:S.hd=false):S.may=false:=by unfold Sp.may;rw[h,Bool.false_and]
theorem Qdd (v:Vl)(n:Int)(h1:32<=n)(h2:n<=2048)(r:Bool)(q:v.ok n=r)(hm:v.name.size<=maxLen)(w:World) :
  Calls Tryz.prog 126 #[.agg #[.string v.name,.bool v.ro,.int .i64 v.root,.int .i64 v.next],.int .i64 n] w λe u=>e=.returned (.bool r)/\Below w.1.size w u:=by
 subst q;obtain⟨a,g⟩:∃a,X6 v.name=a:=⟨_,rfl⟩;obtain⟨b,m⟩:∃b,decide (0<=v.root/\v.root<=n-1)=b:=⟨_,rfl⟩;obtain⟨c,p⟩:∃c,decide (2<=v.next/\v.next<=2147483647)=c:=⟨_,rfl⟩;have d:=Lib.hid (show v.ok n=(a&&(b&&c)) by unfold Vl.ok;rw[g,m,p]);go_enter Tryz.func126,Tryz.ntmps126
 cases a
 ·go_wp2_with (first
   |(go_at_call 201;refine (Qet v.name false g _ hm).mono ?_;rintro e f ⟨rfl,rfl⟩)
   |fail)
  go_ret;exact⟨by rw[d.out];rfl,Ib⟩
 ·cases b
  ·go_wp2_with (first
    |(go_at_call 201;refine (Qet v.name true g _ hm).mono ?_;rintro e f ⟨rfl,rfl⟩)
    |(go_at_call 125;refine (Ll v.root 0 (n-1) false m _).mono ?_;rintro e f ⟨rfl,rfl⟩)
    |fail)
   go_ret;exact⟨by rw[d.out];rfl,Ib⟩
  ·go_wp2_with (first
    |(go_at_call 201;refine (Qet v.name true g _ hm).mono ?_;rintro e f ⟨rfl,rfl⟩)
    |fail)
   refine (Ll v.root 0 (n-1) true m _).mono ?_;rintro e f ⟨rfl,rfl⟩;go_wp2_with fail
   refine (Ll v.next 2 2147483647 c p _).mono ?_;rintro e f ⟨rfl,rfl⟩;go_wp2;go_ret;exact⟨by rw[d.out];rfl,Ib⟩
def Jv (l:List Vl)(j:Nat):Vl:=l.getD j Vl.zero
theorem Eu {l:List Vl}{j:Nat}(h:j<l.length):l[j]?=some (Jv l j):=by simp[Jv,List.getD,h]
def X3 (w:World)(A:Option Addr)(n c:Nat)(l:List Vl):Prop:=Zg w 4 A n c (l.map Vl.vs)
theorem X3.len {w:World}{A:Option Addr}{n c:Nat}{l:List Vl}(h:X3 w A n c l):l.length=n:=by simpa using Zg.len h
theorem X3.cell {w:World}{A:Option Addr}{n c:Nat}{l:List Vl}(h:X3 w A n c l){j:Nat}(hj:j<n):∃g o,A=some ⟨g,o,none⟩/\g<w.1.size/\w.cell? ⟨g,o+j*4,none⟩=some (.string (Jv l j).name)/\w.cell? ⟨g,o+j*4+1,none⟩=some (.bool (Jv l j).ro)/\
  w.cell? ⟨g,o+j*4+2,none⟩=some (.int .i64 (Jv l j).root)/\w.cell? ⟨g,o+j*4+3,none⟩=some (.int .i64 (Jv l j).next):=by
 have f:=h.len;obtain⟨g,o,rfl,e,_,d⟩:=h.2.2.2 j (Jv l j).vs (by rw[List.getElem?_map,Eu (by omega)];rfl);exact⟨g,o,rfl,e,d 0 _ rfl,d 1 _ rfl,d 2 _ rfl,d 3 _ rfl⟩
theorem Qwe {l:List Vl}{s:ByteArray}{j:Nat}(d:j<l.length)(h:((Jv l j).name.toList==s.toList)=true):Yr l s=true:=by
 unfold Yr;rw[List.any_eq_true];exact⟨_,List.mem_of_getElem? (Eu d),h⟩
theorem Qzv {l:List Vl}{s:ByteArray}(h:∀j,j<l.length->((Jv l j).name.toList==s.toList)=false):Yr l s=false:=by
 unfold Yr;rw[List.any_eq_false];intro u f;obtain⟨j,d,rfl⟩:=List.getElem_of_mem f;have:=h j d;have e:=Eu d;rw[List.getElem?_eq_getElem d] at e;injection e with e;rw[<-e] at this;rw[this];simp
theorem Qjz (l:List Vl)(s:ByteArray)(r:Bool)(E:Yr l s=r)(A:Option Addr)(n c:Nat)(w:World)(h:X3 w A n c l)(_:n<=100000) :
  Calls Tryz.prog 127 #[.slice A n c,.string s] w λe O=>e=.returned (.bool r)/\Below w.1.size w O:=by
 subst E;have d:=Lib.hid h.len;have J:=Zg.cap h;have u:=Zg.max h;unfold maxLen at u;go_enter Tryz.func127,Tryz.ntmps127
 go_wp2_with fail
 go_loopw [9] (λi wr=>∃j:Nat,j<=n/\i=.int .i64 (j:Int)/\(∀q,q<j->((Jv l q).name.toList==s.toList)=false)/\Below w.1.size w wr) (λi _=>n-(intOf i).toNat)
 case atStart=>exact⟨0,Nat.zero_le _,rfl,λq B=>by omega,Below.refl _ _⟩
 case round=>
  obtain⟨j,R,rfl,f,m⟩:=hrel;by_cases p:j<n
  ·have E:X3 wr A n c l:=Zg.below h m;obtain⟨g,o,I,Q,c0,c1,c2,c3⟩:=E.cell p;subst I;obtain⟨x,F⟩:∃x,Jv l j=x:=⟨_,rfl⟩;rw[F] at c0 c1 c2 c3;have G:=Lib.hid F;clear F;have K:(0:Int)<=(j:Int):=by omega
   have H:Below wr.1.size wr (wr.alloc (.cells #[.string x.name,.bool x.ro,.int .i64 x.root,.int .i64 x.next] 117)):=Ib
   cases B:x.name.toList==s.toList
   ·go_wp2;refine⟨⟨j+1,by omega,by go_num,λq M=>?_,m.trans (H.mono m.size)⟩,by simp[intOf];omega⟩;by_cases D:q=j
    ·rw[D,G.out];exact B
    ·exact f q (by omega)
   ·go_wp2;go_ret;exact⟨by rw[Qwe (j:=j) (by rw[d.out];exact p) (by rw[G.out];exact B)];rfl,m.trans (H.mono m.size)⟩
  ·have y:j=n:=by omega
   have z:=Lib.hid (Qzv (l:=l) (s:=s) (by rw[d.out,<-y];exact f));go_wp2;go_ret;exact⟨by rw[z.out];rfl,m⟩
def Yv (s:ByteArray):List UInt8:=s.data.toList++List.replicate (10-s.size) 0
def X9 (v:Vl):List UInt8:=Zw (v.name.size:Int) 1++(Yv v.name++(Zw (Bj v.ro) 1++(Zw v.root 2++Zw v.next 4)))
def Qm (S:Sp)(k:Nat):List UInt8:=Zw S.Qa 2++(Zw S.log 2++(S.Zp.take k).flatMap X9)
theorem Ef (s:ByteArray)(h:s.size<=10):(Yv s).length=10:=by unfold Yv;simp;omega
theorem Eh (v:Vl)(h:v.name.size<=10):(X9 v).length=18:=by unfold X9;simp[Ef _ h,Ye]
theorem Dc (S:Sp):Qm S 0=Zw S.Qa 2++Zw S.log 2:=by unfold Qm;simp
theorem q1z (S:Sp){k:Nat}(d:k<8):Qm S (k+1)=Qm S k++X9 (S.at_ k):=by
 unfold Qm;have h:=S.get d;have e:k<S.Zp.length:=by rw[S.len];exact d
 rw[List.getElem?_eq_getElem e] at h;rw[List.take_succ_eq_append_getElem e,List.flatMap_append,Option.some.inj h];simp
theorem Zj (S:Sp)(k:Nat)(d:k<=8)(h:∀j,j<8->(S.at_ j).name.size<=10):(Qm S k).length=4+18*k:=by
 induction k with
 |zero=>rw[Dc];simp[Ye]
 |succ k ih=>rw[q1z S (by omega),List.length_append,ih (by omega),Eh _ (h k (by omega))];omega
theorem Qdw (A:Option Addr)(k c:Nat)(l:List UInt8)(x n:Int)(w:World)(h:Sl w A k c l)(q:k<=17592186044416)(h1:1<=n)(h2:n<=8) :
  Calls Tryz.prog 180 #[.slice A k c,.int .i64 x,.int .i64 n] w λe m=>∃f d g,e=.returned (.slice f d g)/\Own m w.1.size 5 f d g (l++Zw x n.toNat)/\(d<=k+n.toNat/\k+n.toNat<=d)/\Below w.1.size w m:=by
 refine (put_any A k c l x n w h q).mono ?_;rw[Ze0 l x n h1 h2];rintro e m ⟨f,d,g,rfl,own,p⟩;have:=own.len;rw[List.length_append,Ye,h.len] at this;exact⟨f,d,g,rfl,own,⟨by omega,by omega⟩,p⟩
section
variable {P:Program}{w:World}
theorem Qm5 (q F ty e:TypeId)(g n:Nat)(l:List UInt8)(y:TypeId)(d:ByteArray)(E:P.underlying q=some (.slice e))(D:(P.info? e).map (·.size)=some 1)
  (B:w.1[g]?=some (.cells (l.map bv).toArray y (0,0))) (hn:l.length=n) (p:d.size<=n) :
  (Builtin.copy_ #[q,F] ty #[.slice (some ⟨g,0,none⟩) n n,.string d]).run P w=.ok (goInt d.size) (w.setRow g ((splice l 0 d.data.toList).map bv).toArray):=by
 have f:(d.data.toList.map bv).length=d.size:=by simp
 have m:=run_storeCells_at P g 0 y (d.data.toList.map bv) 0 (l.map bv).toArray w B (by rw[f];simp;omega) (Qh6 _);have hm:Nat.min d.size n=d.size:=Nat.min_eq_left p;have G:(Array.map (λb:UInt8=>Value.int .u8 (b.toNat:Int)) (d.extract 0 d.size).data).toList=d.data.toList.map bv:=by
  have:d.extract 0 d.size=d:=by ext1;simp
  rw[this];simp[bv]
 have z:((l.map bv).toArray.toList.take (0+0)++d.data.toList.map bv++(l.map bv).toArray.toList.drop (0+0+(d.data.toList.map bv).length))=(splice l 0 d.data.toList).map bv:=by
  unfold splice;simp
 rw[z] at m
 cases u:P.info? e with
 |none=>simp[u] at D
 |some i=>
  simp only[Builtin.copy_,Builtin.lenOf,Builtin.firstCells,sizeOf,typeInfo];simp only[List.getElem?_toArray,List.getElem?_cons_zero,List.getElem?_cons_succ,Sem.run_bind];simp[run_underlying E,u,hm];have A:List.take d.size (List.map (λb:UInt8=>Value.int .u8 (b.toNat:Int)) d.data.toList)=d.data.toList.map bv:=by
   rw[List.take_of_length_le (by simp)];rfl
  rw[A,m];rfl
theorem Qqd {A:Array Oper}{o:Oper}{a:Act}{K:Act->World->Prop}{Q:Exit->Act->World->Prop}{E:Prop}(y:o.guard=none)(d s:Operand)(u G f:TypeId)
  (M:o.op=.call { callee:=.builtin .copy,args:=#[d,s],argTypes:=#[u,G] }) (R:P.underlying u=some (.slice f)) (O:(P.info? f).map (·.size)=some 1)
  (base g n:Nat) (l:List UInt8) (q:TypeId) (m:Own w base q (some ⟨g,0,none⟩) n n l) (e:ByteArray) (hd:a.eval d=.slice (some ⟨g,0,none⟩) n n) (T:a.eval s=.string e) (z:e.size<=n)
  (I:∀B,Own B base q (some ⟨g,0,none⟩) n n (splice l 0 e.data.toList)->Below g w B->K (a.put o.dst (goInt e.size)) B):if Region.wanted o (yielded A a.tmps)=true then Oper.wp P o a w K Q else E:=by
 rw[if_pos (by simp[Region.wanted,y])];obtain⟨J,D,hm⟩:=m.whole;have F:=m.len;have p:=Qm5 (P:=P) u G o.type f g n l q e R O D F z;have h2:Own (w.setRow g ((splice l 0 e.data.toList).map bv).toArray) base q (some ⟨g,0,none⟩) n n (splice l 0 e.data.toList):=
  Own.of_whole J (setRow_heap w g _ _ q _ D) (by rw[length_splice _ _ _ (by simp;omega),F]) hm
 have H:Below g w (w.setRow g ((splice l 0 e.data.toList).map bv).toArray):=below_setRow (Below.refl _ _) (Nat.le_refl _) _;unfold Oper.wp execOp;simp only[M,resolve,invoke,builtin,Sem.run_bind,Sem.run_pure,Result.andThen_ok,List.map_toArray,List.map_cons,List.map_nil,hd,T,p];exact I _ h2 H
theorem Qj4 {t e:TypeId}(T:U8 P t e){G:Array Oper}{o:Oper}{a:Act}{K:Act->World->Prop}{Q:Exit->Act->World->Prop}{E:Prop}(z:o.guard=none)(s x:Operand)
  (I:o.op=.call { callee:=.builtin .append,args:=#[s,x],argTypes:=#[t,t] })
  (base:Nat) (A:Option Addr) (n c:Nat) (l:List UInt8) (M:a.eval s=.slice A n c) (g:Own w base e A n c l)
  (B:Option Addr) (m d:Nat) (F:List UInt8) (O:a.eval x=.slice B m d) (J:Sl w B m d F) (D:n+m<=140737488355328) (f:base<=w.1.size)
  (h:∀u y q,Own q base e u (n+m) y (l++F)->Below base w q->K (a.put o.dst (.slice u (n+m) y)) q) :
  if Region.wanted o (yielded G a.tmps)=true then Oper.wp P o a w K Q else E:=by
 rw[if_pos (by simp[Region.wanted,z])];obtain⟨u,y,q,p,h2,H,_⟩:=Qd9 (P:=P) w T o.type base A n c l g B m d F J D f;unfold Oper.wp execOp;simp only[I,resolve,invoke,builtin,Sem.run_bind,Sem.run_pure,Result.andThen_ok,List.map_toArray,List.map_cons,List.map_nil,M,O,p];exact h u y q h2 H
end
theorem Zde (b:Nat)(w:World):(Instr.sliceAt 345 (.pointer (some ⟨b,0,none⟩)) none none none).run Tryz.prog w=.ok (.slice (some ⟨b,0,none⟩) 10 10) w:=by
 have d:Tryz.prog.arrayLen 345=10:=by kernel_rfl
 have e:(sizeOf (Tryz.prog.elem 345)).run Tryz.prog w=.ok 1 w:=by kernel_rfl
 rw[run_sliceAt_array_all w 345 _ (by kernel_rfl),e,d];simp[slicedAt,Result.andThen,Addr.add_mid]
theorem Qsb (s:ByteArray)(_:s.size<=10):splice (List.replicate 10 0) 0 s.data.toList=Yv s:=by
 have e:splice (List.replicate 10 (0:UInt8)) 0 s.data.toList=s.data.toList++(List.replicate 10 (0:UInt8)).drop s.data.toList.length:=by unfold splice;rw[List.take_zero,List.nil_append,Nat.zero_add]
 rw[e,List.drop_replicate];rfl
theorem Qsi (v:Vl)(hv:v.name.size<=10)(A:Option Addr)(n c:Nat)(l:List UInt8)(w:World)(hs:Sl w A n c l)(hn:n<=100000) :
  Calls Tryz.prog 244 #[.slice A n c,.agg #[.string v.name,.bool v.ro,.int .i64 v.root,.int .i64 v.next]] w λe d=>
   ∃A' n' c',e=.returned (.slice A' n' c')/\Own d w.1.size 5 A' n' c' (l++X9 v)/\n'=n+18/\Below w.1.size w d:=by
 have b5:=Lib.hid hs.len;go_enter Tryz.func244,Tryz.ntmps244
 go_wp2_with fail
 generalize F:w.alloc (.cells #[.string v.name,.bool v.ro,.int .i64 v.root,.int .i64 v.next] 117)=m;have V1:VB m w.1.size v:=by rw[<-F];exact VB.new w v _
 have b1:Below w.1.size w m:=by rw[<-F];exact Ib
 have z1:m.1.size=w.1.size+1:=by rw[<-F];simp
 rw[<-z1];clear F;have U:Own (m.alloc (.cells ((List.replicate 10 (0:UInt8)).map bv).toArray 345)) m.1.size 345 (some ⟨m.1.size,0,none⟩) 10 10 (List.replicate 10 0):=
  Own.of_whole (Nat.le_refl _) (heap_alloc_new m _) (by simp) (by unfold maxLen;omega)
 have V:Below m.1.size m (m.alloc (.cells ((List.replicate 10 (0:UInt8)).map bv).toArray 345)):=Ib;rw[show ((List.replicate 10 (0:UInt8)).map bv).toArray=#[.int .u8 0,.int .u8 0,.int .u8 0,.int .u8 0,.int .u8 0,.int .u8 0,.int .u8 0,.int .u8 0,.int .u8 0,.int .u8 0] from rfl] at U V;generalize m.alloc (.cells #[.int .u8 0,.int .u8 0,.int .u8 0,.int .u8 0,.int .u8 0,.int .u8 0,.int .u8 0,.int .u8 0,.int .u8 0,.int .u8 0] 345)=G at U V ⊢;have V2:=V1.below V V1.lt;have z2:m.1.size<=G.1.size:=V.size;have I:m.1.size<G.1.size:=(U.block _ rfl).2;have B2:Below w.1.size w G:=b1.trans (V.mono (by omega));obtain⟨q,a6⟩:∃q,m.1.size=q:=⟨_,rfl⟩;have b4:=λd=>Zde q d
 rw[a6] at U I ⊢;have R:w.1.size<q:=by omega
 have q2:=V2.c0;obtain⟨ps,T⟩:∃ps,splice (List.replicate 10 (0:UInt8)) 0 v.name.data.toList=ps:=⟨_,rfl⟩;have J:=Lib.hid (T.symm.trans (Qsb v.name hv));have H:∀d:World,Below q G d->d.cell? ⟨w.1.size,0,none⟩=some (.string v.name)/\Below q G d:=λd X=>⟨(X.cell (p:=⟨w.1.size,0,none⟩) R).trans q2,X⟩
 have O:Below q G G.drew:=(Below.refl _ _).drew;go_region_held3 (λd=>d.cell? ⟨w.1.size,0,none⟩=some (.string v.name)/\Below q G d)
  (first|assumption|exact H _ O|exact H _ D)
  (first
   |(refine Qqd rfl (.tmp 6) (.tmp 8) 48 9 5 rfl Tryz.underlying48 (by kernel_rfl) q q 10 (List.replicate 10 0) 345 (by first|exact U|exact U.drew) v.name rfl rfl hv ?_;intro f g Q;rw[T] at g;have D:Below q G f:=(by first|exact O.trans Q|exact Q))
   |fail)
 have W:Below w.1.size w f:=B2.trans (D.mono (by omega));have V3:=V2.below D R;have a7:=hs.below W;have z3:=(g.block _ rfl).2;rw[J.out] at g;clear H O U hs q2 V2 V1 b1 V B2 D Q T;go_wp2_with fail
 have q3:=V3.c0;have H:∀d:World,Below f.1.size f d->d.cell? ⟨w.1.size,0,none⟩=some (.string v.name)/\Below f.1.size f d:=λd X=>⟨(X.cell (p:=⟨w.1.size,0,none⟩) V3.lt).trans q3,X⟩
 have O:Below f.1.size f f.drew:=(Below.refl _ _).drew;have z4:f.1.size<=f.drew.1.size:=Nat.le_refl _;have p1:(1:Int)<=1:=by omega
 have p2:(1:Int)<=8:=by omega
 have p3:n<=17592186044416:=by omega
 have y:=g.sl;go_region_held3 (λd=>d.cell? ⟨w.1.size,0,none⟩=some (.string v.name)/\Below f.1.size f d)
  (first|assumption|exact H _ O|exact H _ u|exact H _ E)
  (first
   |((refine Qj4 T22 rfl (.tmp 14) (.tmp 15) rfl f.1.size A5 n5 c5 _ rfl K (some ⟨q,0,none⟩) 10 10 (Yv v.name) rfl (y.below u) p5 u.size ?_);intro A6 c6 w6 B Z;have E:Below f.1.size f w6:=u.trans Z)
   |(go_at_call 180;refine (Qdw A n c _ (v.name.size:Int) 1 _ a7.drew p3 p1 p2).mono ?_;rintro e w5 ⟨A5,n5,c5,rfl,z,b6,Y⟩;have K:Own w5 f.1.size 5 A5 n5 c5 _:=z;have u:Below f.1.size f w5:=O.trans (Y.mono z4);have p5:n5+10<=140737488355328:=by omega)
   |fail)
 all_goals
  have V6:=V3.below E V3.lt;have B6:=W.trans (E.mono W.size);have B:=B.less W.size;clear H O K z Y Z u E g y a7 V3 W b4 p5 z4 J z1 a6 I R z2 z3 q3;have q6:=V6.c1;go_wp2_with fail
  refine (Qsq v.ro _).mono ?_;rintro e w7 ⟨rfl,rfl⟩;go_wp2_with fail
  refine (Qdw A6 (n5+10) c6 _ (Bj v.ro) 1 _ B.sl (by omega) (by omega) (by omega)).mono ?_;rintro e w7 ⟨A7,n7,c7,rfl,a8,b7,a1⟩;have V7:=V6.below a1 V6.lt;have B7:=B6.trans (a1.mono B6.size);have q7:=V7.c2;clear q6;go_wp2_with fail
  refine (Qdw A7 n7 c7 _ v.root 2 _ a8.sl (by omega) (by omega) (by omega)).mono ?_;rintro e w8 ⟨A8,n8,c8,rfl,b0,b8,a2⟩;have V8:=V7.below a2 V7.lt;have B8:=B7.trans (a2.mono B7.size);have q8:=V8.c3;clear q7;go_wp2_with fail
  refine (Qdw A8 n8 c8 _ v.next 4 _ b0.sl (by omega) (by omega) (by omega)).mono ?_;rintro e w9 ⟨A9,n9,c9,rfl,M,b9,b3⟩;have B9:=B8.trans (b3.mono B8.size);go_wp2;go_ret;refine⟨A9,n9,c9,rfl,?_,by omega,B9⟩;have e9:l++Zw (v.name.size:Int) (1:Int).toNat++Yv v.name++Zw (Bj v.ro) (1:Int).toNat++Zw v.root (2:Int).toNat++Zw v.next (4:Int).toNat=l++X9 v:=by
   unfold X9;simp only[List.append_assoc];rfl
  rw[e9] at M;exact M.less B8.size
theorem Zeo (d:BinOp)(x y:Operand)(xs e:Array Value)(w:World):(eqGuard d 117 x y (.agg xs) (.agg e)).run Tryz.prog w=.ok () w:=
 run_eqGuard_agg w d 117 x y xs e (by kernel_rfl)
theorem Zet (x:Vl)(r:Bool)(h:x.same Vl.zero=r)(w:World):(binOp .neq 117 (.agg #[.string x.name,.bool x.ro,.int .i64 x.root,.int .i64 x.next]) (.agg #[.string ⟨#[]⟩,.bool false,.int .i64 0,.int .i64 0])).run Tryz.prog w=.ok (.bool (!r)) w:=Zeu x Vl.zero r h w
theorem SB.Zd0 {w:World}{b:Nat}{S:Sp}(H:SB w b S){k:Nat}(hk:k<=8):X3 w (some ⟨b,3,none⟩) k 8 (S.Zp.take k):=by
 have:=H.Hr.take hk;unfold X3;rwa [List.map_take]
theorem Zf0 (b k:Nat)(f:k<=8)(w:World):(Instr.sliceAt 118 (.pointer (some ⟨b,3,none⟩)) none (some (.int .i64 (k:Int))) none).run Tryz.prog w=.ok (.slice (some ⟨b,3,none⟩) k 8) w:=by
 have d:Tryz.prog.arrayLen 118=8:=by kernel_rfl
 have e:(sizeOf (Tryz.prog.elem 118)).run Tryz.prog w=.ok 4 w:=by kernel_rfl
 rw[run_sliceAt_array_h w 118 _ (by kernel_rfl) .i64 _ (by omega) (by rw[d];omega),e,d];simp[slicedAt,Result.andThen,Addr.add_mid]
theorem Zat (S:Sp)(r:Bool)(hr:S.may=r)(hf:S.fine)(w:World) :
  Calls Tryz.prog 76 #[.agg S.vs.toArray] w λe w'=>e=.returned (.bool r)/\Below w.1.size w w':=by
 subst hr;have G:=SB.new w S 120;have A:Below w.1.size w (w.alloc (.cells S.vs.toArray 120)):=Ib;have q0:=G.c0;have q1:=G.c1;have q2:=G.c2;go_enter Tryz.func76,Tryz.ntmps76
 go_wp2_with fail
 generalize w.alloc (.cells S.vs.toArray 120)=w1 at G A q0 q1 q2 ⊢;by_cases hg:1<=S.gen/\S.gen<=1099511627775
 ·refine (Ll S.gen 1 1099511627775 true (decide_eq_true hg) _).mono ?_;rintro e R ⟨rfl,rfl⟩;go_wp2_with fail
  by_cases F:32<=S.Qa/\S.Qa<=2048
  ·refine (Ll S.Qa 32 2048 true (decide_eq_true F) _).mono ?_;rintro e R ⟨rfl,rfl⟩;go_wp2_with fail
   by_cases hl:0<=S.log/\S.log<=S.Qa-1
   ·refine (Ll S.log 0 (S.Qa-1) true (decide_eq_true hl) _).mono ?_;rintro e R ⟨rfl,rfl⟩;have Z:S.hd=true:=decide_eq_true (by omega);have M:=Lib.hid (λh=>Fj (S:=S) Z h);go_wp2_with (first
     |(refine Qs8 rfl (.tmp 24) rfl w.1.size rfl S G ?_)
     |fail)
    go_loopw [26] (λi wr=>∃k:Nat,k<=8/\i=.int .i64 (k:Int)/\(∀j<k,S.ok1 j=true)/\Below w1.1.size w1 wr) (λi _=>8-(intOf i).toNat)
    case atStart=>exact⟨0,by omega,rfl,λj hj=>by omega,Below.refl _ _⟩
    case round=>
     obtain⟨k,hk,rfl,y,V⟩:=hrel;by_cases B:k<8
     ·have O:=Zdv S B;have a6:(0:Int)<=(k:Int):=by omega
      obtain⟨x,hx⟩:∃x,S.at_ k=x:=⟨_,rfl⟩;have E:=hf k B;rw[hx] at O E;have g:=Lib.hid (show S.ok1 k=(x.same Vl.zero||(x.ok S.Qa&&!Yr (S.Zp.take k) x.name)) by unfold Sp.ok1;rw[hx]);clear hx;have Hr:=G.below V G.lt;go_wp2_with fail
      have Y:Below wr.1.size wr (wr.alloc (.cells #[.string x.name,.bool x.ro,.int .i64 x.root,.int .i64 x.next] 117)):=Ib;have K:(wr.alloc (.cells #[.string x.name,.bool x.ro,.int .i64 x.root,.int .i64 x.next] 117)).1[wr.1.size]?=some (.cells #[.string x.name,.bool x.ro,.int .i64 x.root,.int .i64 x.next] 117 (0,0)):=heap_alloc_new wr _;have U:wr.1.size<(wr.alloc (.cells #[.string x.name,.bool x.ro,.int .i64 x.root,.int .i64 x.next] 117)).1.size:=by simp
      generalize wr.alloc (.cells #[.string x.name,.bool x.ro,.int .i64 x.root,.int .i64 x.next] 117)=T at Y K U ⊢;have J:=Hr.below Y Hr.lt;have q0:∀u:Grown T,u.to.cell? ⟨wr.1.size,0,none⟩=some (.string x.name):=Grown.cell (by rw[cell_of_row _ _ _ _ _ _ K];rfl) U;have q1:∀u:Grown T,u.to.cell? ⟨wr.1.size,1,none⟩=some (.bool x.ro):=Grown.cell (by rw[cell_of_row _ _ _ _ _ _ K];rfl) U;have q2:∀u:Grown T,u.to.cell? ⟨wr.1.size,2,none⟩=some (.int .i64 x.root):=Grown.cell (by rw[cell_of_row _ _ _ _ _ _ K];rfl) U;have q3:∀u:Grown T,u.to.cell? ⟨wr.1.size,3,none⟩=some (.int .i64 x.next):=Grown.cell (by rw[cell_of_row _ _ _ _ _ _ K];rfl) U;have q4:∀u:Grown T,u.to.cell? ⟨w.1.size,1,none⟩=some (.int .i64 S.Qa):=Grown.cell J.c1 J.lt;have d:=V.trans (Y.mono V.size);have hG:=Zeo;have a7:=Zf0 w.1.size k (by omega);clear K O;obtain⟨z,W⟩:∃z,x.same Vl.zero=z:=⟨_,rfl⟩;have a2:=Zet x z W
      cases z
      ·obtain⟨m,p⟩:∃m,x.ok S.Qa=m:=⟨_,rfl⟩
       cases m
       ·have I:=Lib.hid (Qzs (S:=S) B (by rw[g.out,W,p];rfl));refine Iq (by kernel_rfl) (by kernel_rfl) ?_;repeat (go_big_quiet_step (first
         |(go_at_call 126;exact Calls.grown (Qdd x S.Qa F.1 F.2 false p E _))
         |fail))
        refine wpQuiet_nil ?_;rintro _ ⟨u,rfl⟩;have f:=d.trans (u.ok.mono d.size);go_wp2;go_ret;exact⟨by rw[I.out];rfl,A.trans (f.mono A.size)⟩
       ·obtain⟨nm,D⟩:∃nm,Yr (S.Zp.take k) x.name=nm:=⟨_,rfl⟩
        cases nm
        ·have X:=Lib.hid (show (x.same Vl.zero||(x.ok S.Qa&&!Yr (S.Zp.take k) x.name))=true by rw[p,D];simp);refine Iq (by kernel_rfl) (by kernel_rfl) ?_;repeat (go_big_quiet_step (first
          |(go_at_call 126;exact Calls.grown (Qdd x S.Qa F.1 F.2 true p E _))
          |(go_at_call 127;exact Calls.grown (Qjz (S.Zp.take k) x.name false D _ k 8 _ ((J.below (Grown.ok _) J.lt).Zd0 (by omega)) (by omega)))
          |fail))
         refine wpQuiet_nil ?_;rintro _ ⟨u,rfl⟩;have f:=d.trans (u.ok.mono d.size);go_wp2;refine⟨⟨k+1,by omega,by go_num,λj hj=>?_,f⟩,by simp[intOf];omega⟩;by_cases H:j=k
         ·rw[H,g.out,X.out]
         ·exact y j (by omega)
        ·have I:=Lib.hid (Qzs (S:=S) B (by rw[g.out,W,p,D];rfl));refine Iq (by kernel_rfl) (by kernel_rfl) ?_;repeat (go_big_quiet_step (first
          |(go_at_call 126;exact Calls.grown (Qdd x S.Qa F.1 F.2 true p E _))
          |(go_at_call 127;exact Calls.grown (Qjz (S.Zp.take k) x.name true D _ k 8 _ ((J.below (Grown.ok _) J.lt).Zd0 (by omega)) (by omega)))
          |fail))
         refine wpQuiet_nil ?_;rintro _ ⟨u,rfl⟩;have f:=d.trans (u.ok.mono d.size);go_wp2;go_ret;exact⟨by rw[I.out];rfl,A.trans (f.mono A.size)⟩
      ·have X:=Lib.hid (show (x.same Vl.zero||(x.ok S.Qa&&!Yr (S.Zp.take k) x.name))=true by rw[W];rfl);refine Iq (by kernel_rfl) (by kernel_rfl) ?_;repeat (go_big_quiet_step (first
        |fail))
       refine wpQuiet_nil ?_;rintro _ ⟨u,rfl⟩;have f:=d.trans (u.ok.mono d.size);go_wp2;refine⟨⟨k+1,by omega,by go_num,λj hj=>?_,f⟩,by simp[intOf];omega⟩;by_cases H:j=k
       ·rw[H,g.out,X.out]
       ·exact y j (by omega)
     ·have a1:k=8:=by omega
      have Q:=Lib.hid (M.out (by rw[<-a1];exact y));go_wp2;go_ret;exact⟨by rw[Q.out];rfl,A.trans (V.mono A.size)⟩
   ·refine (Ll S.log 0 (S.Qa-1) false (decide_eq_false hl) _).mono ?_;rintro e R ⟨rfl,rfl⟩;have q:=Lib.hid (Qr2 (S:=S) (decide_eq_false (by omega)));go_wp2;go_ret;exact⟨by rw[q.out];rfl,A⟩
  ·refine (Ll S.Qa 32 2048 false (decide_eq_false F) _).mono ?_;rintro e R ⟨rfl,rfl⟩;have q:=Lib.hid (Qr2 (S:=S) (decide_eq_false (by omega)));go_wp2;go_ret;exact⟨by rw[q.out];rfl,A⟩
 ·refine (Ll S.gen 1 1099511627775 false (decide_eq_false hg) _).mono ?_;rintro e R ⟨rfl,rfl⟩;have q:=Lib.hid (Qr2 (S:=S) (decide_eq_false (by omega)));go_wp2;go_ret;exact⟨by rw[q.out];rfl,A⟩
