/- Superblocks: the code's mayVol, named and May -/
import Derived.Test.YthkfkhejjmhomaaGreatDoorDb11
namespace Go.Proofs.YthkfkhejjmhomaaGreatDoor
open Go Go.RowKit Go.Proofs
set_option maxHeartbeats 4000000
set_option maxRecDepth 100000
def Vl.ok (v:Vl)(n:Int):Bool:=Du v.name&&(decide (0<=v.root/\v.root<=n-1)&&decide (2<=v.next/\v.next<=2147483647))
def Kv (l:List Vl)(s:ByteArray):Bool:=l.any λu=>u.name.toList==s.toList
def Sp.ok1 (S:Sp)(i:Nat):Bool:=(S.at_ i).same Vl.zero||((S.at_ i).ok S.Qa&&!Kv (S.Jo.take i) (S.at_ i).name)
def Sp.hd (S:Sp):Bool:=decide (1<=S.gen/\S.gen<=1099511627775/\32<=S.Qa/\S.Qa<=2048/\0<=S.log/\S.log<=S.Qa-1)
def Sp.may (S:Sp):Bool:=S.hd&&(List.range 8).all S.ok1
def Sp.fine (S:Sp):Prop:=∀k,k<8->(S.at_ k).name.size<=maxLen
theorem qvr {S:Sp}{j:Nat}(d:j<8)(h:S.ok1 j=false):S.may=false:=by
 have:(List.range 8).all S.ok1=false:=by
  rw[List.all_eq_false];exact⟨j,List.mem_range.2 d,by rw[h];simp⟩
 unfold Sp.may;rw[this,Bool.and_false]
theorem qnm {S:Sp}(h0:S.hd=true)(h:∀j,j<8->S.ok1 j=true):S.may=true:=by
 have:(List.range 8).all S.ok1=true:=by
  rw[List.all_eq_true];exact λj d=>h j (List.mem_range.1 d)
 unfold Sp.may;rw[this,h0];rfl
theorem qnn {S:Sp}(h:S.hd=false):S.may=false:=by unfold Sp.may;rw[h,Bool.false_and]
theorem q5o (v:Vl)(n:Int)(h1:32<=n)(h2:n<=2048)(r:Bool)(y:v.ok n=r)(hm:v.name.size<=maxLen)(w:World) :
  Calls Tryz.prog 126 #[.agg #[.string v.name,.bool v.ro,.int .i64 v.root,.int .i64 v.next],.int .i64 n] w λe A=>e=.returned (.bool r)/\Below w.1.size w A:=by
 subst y;obtain⟨a,m⟩:∃a,Du v.name=a:=⟨_,rfl⟩;obtain⟨b,p⟩:∃b,decide (0<=v.root/\v.root<=n-1)=b:=⟨_,rfl⟩;obtain⟨c,u⟩:∃c,decide (2<=v.next/\v.next<=2147483647)=c:=⟨_,rfl⟩;have d:=Lib.hid (show v.ok n=(a&&(b&&c)) by unfold Vl.ok;rw[m,p,u]);go_enter Tryz.func126,Tryz.ntmps126
 cases a
 ·go_wp2_with (first
   |(go_at_call 201;refine (q71 v.name false m _ hm).mono ?_;rintro e f ⟨rfl,rfl⟩)
   |fail)
  go_ret;exact⟨by rw[d.out];rfl,Qk⟩
 ·cases b
  ·go_wp2_with (first
    |(go_at_call 201;refine (q71 v.name true m _ hm).mono ?_;rintro e f ⟨rfl,rfl⟩)
    |(go_at_call 125;refine (Pg v.root 0 (n-1) false p _).mono ?_;rintro e f ⟨rfl,rfl⟩)
    |fail)
   go_ret;exact⟨by rw[d.out];rfl,Qk⟩
  ·go_wp2_with (first
    |(go_at_call 201;refine (q71 v.name true m _ hm).mono ?_;rintro e f ⟨rfl,rfl⟩)
    |fail)
   refine (Pg v.root 0 (n-1) true p _).mono ?_;rintro e f ⟨rfl,rfl⟩;go_wp2_with fail
   refine (Pg v.next 2 2147483647 c u _).mono ?_;rintro e f ⟨rfl,rfl⟩;go_wp2;go_ret;exact⟨by rw[d.out];rfl,Qk⟩
def Dc (l:List Vl)(j:Nat):Vl:=l.getD j Vl.zero
theorem qd2 {l:List Vl}{j:Nat}(h:j<l.length):l[j]?=some (Dc l j):=by simp[Dc,List.getD,h]
def Fg (w:World)(A:Option Addr)(n c:Nat)(l:List Vl):Prop:=Jq w 4 A n c (l.map Vl.vs)
theorem Fg.len {w:World}{A:Option Addr}{n c:Nat}{l:List Vl}(h:Fg w A n c l):l.length=n:=by simpa using Jq.len h
theorem Fg.cell {w:World}{A:Option Addr}{n c:Nat}{l:List Vl}(h:Fg w A n c l){j:Nat}(hj:j<n):∃g o,A=some ⟨g,o,none⟩/\g<w.1.size/\w.cell? ⟨g,o+j*4,none⟩=some (.string (Dc l j).name)/\w.cell? ⟨g,o+j*4+1,none⟩=some (.bool (Dc l j).ro)/\
  w.cell? ⟨g,o+j*4+2,none⟩=some (.int .i64 (Dc l j).root)/\w.cell? ⟨g,o+j*4+3,none⟩=some (.int .i64 (Dc l j).next):=by
 have f:=h.len;obtain⟨g,o,rfl,e,_,d⟩:=h.2.2.2 j (Dc l j).vs (by rw[List.getElem?_map,qd2 (by omega)];rfl);exact⟨g,o,rfl,e,d 0 _ rfl,d 1 _ rfl,d 2 _ rfl,d 3 _ rfl⟩
theorem qno {l:List Vl}{s:ByteArray}{j:Nat}(d:j<l.length)(h:((Dc l j).name.toList==s.toList)=true):Kv l s=true:=by
 unfold Kv;rw[List.any_eq_true];exact⟨_,List.mem_of_getElem? (qd2 d),h⟩
theorem qsi {l:List Vl}{s:ByteArray}(h:∀j,j<l.length->((Dc l j).name.toList==s.toList)=false):Kv l s=false:=by
 unfold Kv;rw[List.any_eq_false];intro u f;obtain⟨j,d,rfl⟩:=List.getElem_of_mem f;have:=h j d;have e:=qd2 d;rw[List.getElem?_eq_getElem d] at e;injection e with e;rw[<-e] at this;rw[this];simp
theorem qbh (l:List Vl)(s:ByteArray)(r:Bool)(F:Kv l s=r)(A:Option Addr)(n c:Nat)(w:World)(h:Fg w A n c l)(_:n<=100000) :
  Calls Tryz.prog 127 #[.slice A n c,.string s] w λe Q=>e=.returned (.bool r)/\Below w.1.size w Q:=by
 subst F;have d:=Lib.hid h.len;have K:=Jq.cap h;have u:=Jq.max h;unfold maxLen at u;go_enter Tryz.func127,Tryz.ntmps127
 go_wp2_with fail
 go_loopw [9] (λi wr=>∃j:Nat,j<=n/\i=.int .i64 (j:Int)/\(∀q,q<j->((Dc l q).name.toList==s.toList)=false)/\Below w.1.size w wr) (λi _=>n-(intOf i).toNat)
 case atStart=>exact⟨0,Nat.zero_le _,rfl,λq D=>by omega,Below.refl _ _⟩
 case round=>
  obtain⟨j,T,rfl,f,m⟩:=hrel;by_cases p:j<n
  ·have F:Fg wr A n c l:=Jq.below h m;obtain⟨g,o,J,R,c0,c1,c2,c3⟩:=F.cell p;subst J;obtain⟨x,G⟩:∃x,Dc l j=x:=⟨_,rfl⟩;rw[G] at c0 c1 c2 c3;have H:=Lib.hid G;clear G;have M:(0:Int)<=(j:Int):=by omega
   have I:Below wr.1.size wr (wr.alloc (.cells #[.string x.name,.bool x.ro,.int .i64 x.root,.int .i64 x.next] 117)):=Qk
   cases D:x.name.toList==s.toList
   ·go_wp2;refine⟨⟨j+1,by omega,by go_num,λq O=>?_,m.trans (I.mono m.size)⟩,by simp[intOf];omega⟩;by_cases E:q=j
    ·rw[E,H.out];exact D
    ·exact f q (by omega)
   ·go_wp2;go_ret;exact⟨by rw[qno (j:=j) (by rw[d.out];exact p) (by rw[H.out];exact D)];rfl,m.trans (I.mono m.size)⟩
  ·have y:j=n:=by omega
   have B:=Lib.hid (qsi (l:=l) (s:=s) (by rw[d.out,<-y];exact f));go_wp2;go_ret;exact⟨by rw[B.out];rfl,m⟩
def Ar (s:ByteArray):List UInt8:=s.data.toList++List.replicate (10-s.size) 0
def Xl (v:Vl):List UInt8:=Qy (v.name.size:Int) 1++(Ar v.name++(Qy (Nq v.ro) 1++(Qy v.root 2++Qy v.next 4)))
def Zq (S:Sp)(k:Nat):List UInt8:=Qy S.Qa 2++(Qy S.log 2++(S.Jo.take k).flatMap Xl)
theorem q8r (s:ByteArray)(h:s.size<=10):(Ar s).length=10:=by unfold Ar;simp;omega
theorem qsj (v:Vl)(h:v.name.size<=10):(Xl v).length=18:=by unfold Xl;simp[q8r _ h,Xf]
theorem q9e (S:Sp):Zq S 0=Qy S.Qa 2++Qy S.log 2:=by unfold Zq;simp
theorem q9f (S:Sp){k:Nat}(d:k<8):Zq S (k+1)=Zq S k++Xl (S.at_ k):=by
 unfold Zq;have h:=S.get d;have e:k<S.Jo.length:=by rw[S.len];exact d
 rw[List.getElem?_eq_getElem e] at h;rw[List.take_succ_eq_append_getElem e,List.flatMap_append,Option.some.inj h];simp
theorem J5 (S:Sp)(k:Nat)(d:k<=8)(h:∀j,j<8->(S.at_ j).name.size<=10):(Zq S k).length=4+18*k:=by
 induction k with
 |zero=>rw[q9e];simp[Xf]
 |succ k ih=>rw[q9f S (by omega),List.length_append,ih (by omega),qsj _ (h k (by omega))];omega
theorem q72 (A:Option Addr)(k c:Nat)(l:List UInt8)(x n:Int)(w:World)(h:Sl w A k c l)(y:k<=17592186044416)(h1:1<=n)(h2:n<=8) :
  Calls Tryz.prog 180 #[.slice A k c,.int .i64 x,.int .i64 n] w λe p=>∃f d m,e=.returned (.slice f d m)/\Own p w.1.size 5 f d m (l++Qy x n.toNat)/\(d<=k+n.toNat/\k+n.toNat<=d)/\Below w.1.size w p:=by
 refine (q79 A k c l x n w h y).mono ?_;rw[qzg l x n h1 h2];rintro e p ⟨f,d,m,rfl,own,u⟩;have:=own.len;rw[List.length_append,Xf,h.len] at this;exact⟨f,d,m,rfl,own,⟨by omega,by omega⟩,u⟩
section
variable {P:Program}{w:World}
theorem qen (u H ty e:TypeId)(g n:Nat)(l:List UInt8)(A:TypeId)(d:ByteArray)(G:P.underlying u=some (.slice e))(F:(P.info? e).map (·.size)=some 1)
  (E:w.1[g]?=some (.cells (l.map bv).toArray A (0,0))) (hn:l.length=n) (p:d.size<=n) :
  (Builtin.copy_ #[u,H] ty #[.slice (some ⟨g,0,none⟩) n n,.string d]).run P w=.ok (goInt d.size) (w.setRow g ((splice l 0 d.data.toList).map bv).toArray):=by
 have f:(d.data.toList.map bv).length=d.size:=by simp
 have m:=run_storeCells_at P g 0 A (d.data.toList.map bv) 0 (l.map bv).toArray w E (by rw[f];simp;omega) (qeg _);have hm:Nat.min d.size n=d.size:=Nat.min_eq_left p;have I:(Array.map (λb:UInt8=>Value.int .u8 (b.toNat:Int)) (d.extract 0 d.size).data).toList=d.data.toList.map bv:=by
  have:d.extract 0 d.size=d:=by ext1;simp
  rw[this];simp[bv]
 have B:((l.map bv).toArray.toList.take (0+0)++d.data.toList.map bv++(l.map bv).toArray.toList.drop (0+0+(d.data.toList.map bv).length))=(splice l 0 d.data.toList).map bv:=by
  unfold splice;simp
 rw[B] at m
 cases y:P.info? e with
 |none=>simp[y] at F
 |some i=>
  simp only[Builtin.copy_,Builtin.lenOf,Builtin.firstCells,sizeOf,typeInfo];simp only[List.getElem?_toArray,List.getElem?_cons_zero,List.getElem?_cons_succ,Sem.run_bind];simp[run_underlying G,y,hm];have D:List.take d.size (List.map (λb:UInt8=>Value.int .u8 (b.toNat:Int)) d.data.toList)=d.data.toList.map bv:=by
   rw[List.take_of_length_le (by simp)];rfl
  rw[D,m];rfl
theorem qh1 {D:Array Oper}{o:Oper}{a:Act}{K:Act->World->Prop}{Q:Exit->Act->World->Prop}{E:Prop}(A:o.guard=none)(d s:Operand)(y I f:TypeId)
  (R:o.op=.call { callee:=.builtin .copy,args:=#[d,s],argTypes:=#[y,I] }) (U:P.underlying y=some (.slice f)) (T:(P.info? f).map (·.size)=some 1)
  (base g n:Nat) (l:List UInt8) (u:TypeId) (m:Own w base u (some ⟨g,0,none⟩) n n l) (e:ByteArray) (hd:a.eval d=.slice (some ⟨g,0,none⟩) n n) (W:a.eval s=.string e) (B:e.size<=n)
  (M:∀F,Own F base u (some ⟨g,0,none⟩) n n (splice l 0 e.data.toList)->Below g w F->K (a.put o.dst (goInt e.size)) F):if Region.wanted o (yielded D a.tmps)=true then Oper.wp P o a w K Q else E:=by
 rw[if_pos (by simp[Region.wanted,A])];obtain⟨O,G,hm⟩:=m.whole;have H:=m.len;have p:=qen (P:=P) y I o.type f g n l u e U T G H B;have h2:Own (w.setRow g ((splice l 0 e.data.toList).map bv).toArray) base u (some ⟨g,0,none⟩) n n (splice l 0 e.data.toList):=
  Own.of_whole O (setRow_heap w g _ _ u _ G) (by rw[length_splice _ _ _ (by simp;omega),H]) hm
 have J:Below g w (w.setRow g ((splice l 0 e.data.toList).map bv).toArray):=below_setRow (Below.refl _ _) (Nat.le_refl _) _;unfold Oper.wp execOp;simp only[R,resolve,invoke,builtin,Sem.run_bind,Sem.run_pure,Result.andThen_ok,List.map_toArray,List.map_cons,List.map_nil,hd,W,p];exact M _ h2 J
theorem qb7 {t e:TypeId}(T:Ux P t e){J:Array Oper}{o:Oper}{a:Act}{K:Act->World->Prop}{Q:Exit->Act->World->Prop}{E:Prop}(G:o.guard=none)(s x:Operand)
  (O:o.op=.call { callee:=.builtin .append,args:=#[s,x],argTypes:=#[t,t] })
  (base:Nat) (A:Option Addr) (n c:Nat) (l:List UInt8) (U:a.eval s=.slice A n c) (p:Own w base e A n c l)
  (B:Option Addr) (m d:Nat) (I:List UInt8) (W:a.eval x=.slice B m d) (R:Sl w B m d I) (H:n+m<=140737488355328) (f:base<=w.1.size)
  (h:∀D F y,Own y base e D (n+m) F (l++I)->Below base w y->K (a.put o.dst (.slice D (n+m) F)) y) :
  if Region.wanted o (yielded J a.tmps)=true then Oper.wp P o a w K Q else E:=by
 rw[if_pos (by simp[Region.wanted,G])];obtain⟨D,F,y,u,h2,M,_⟩:=q66 (P:=P) w T o.type base A n c l p B m d I R H f;unfold Oper.wp execOp;simp only[O,resolve,invoke,builtin,Sem.run_bind,Sem.run_pure,Result.andThen_ok,List.map_toArray,List.map_cons,List.map_nil,U,W,u];exact h D F y h2 M
end
theorem qwf (b:Nat)(w:World):(Instr.sliceAt 345 (.pointer (some ⟨b,0,none⟩)) none none none).run Tryz.prog w=.ok (.slice (some ⟨b,0,none⟩) 10 10) w:=by
 have d:Tryz.prog.arrayLen 345=10:=by kernel_rfl
 have e:(sizeOf (Tryz.prog.elem 345)).run Tryz.prog w=.ok 1 w:=by kernel_rfl
 rw[run_sliceAt_array_all w 345 _ (by kernel_rfl),e,d];simp[slicedAt,Result.andThen,Addr.add_mid]
theorem ql7 (s:ByteArray)(_:s.size<=10):splice (List.replicate 10 0) 0 s.data.toList=Ar s:=by
 have e:splice (List.replicate 10 (0:UInt8)) 0 s.data.toList=s.data.toList++(List.replicate 10 (0:UInt8)).drop s.data.toList.length:=by unfold splice;rw[List.take_zero,List.nil_append,Nat.zero_add]
 rw[e,List.drop_replicate];rfl
theorem ql8 (v:Vl)(hv:v.name.size<=10)(A:Option Addr)(n c:Nat)(l:List UInt8)(w:World)(hs:Sl w A n c l)(hn:n<=100000) :
  Calls Tryz.prog 244 #[.slice A n c,.agg #[.string v.name,.bool v.ro,.int .i64 v.root,.int .i64 v.next]] w λe d=>
   ∃A' n' c',e=.returned (.slice A' n' c')/\Own d w.1.size 5 A' n' c' (l++Xl v)/\n'=n+18/\Below w.1.size w d:=by
 have b7:=Lib.hid hs.len;go_enter Tryz.func244,Tryz.ntmps244
 go_wp2_with fail
 generalize I:w.alloc (.cells #[.string v.name,.bool v.ro,.int .i64 v.root,.int .i64 v.next] 117)=u;have V1:VB u w.1.size v:=by rw[<-I];exact VB.new w v _
 have b1:Below w.1.size w u:=by rw[<-I];exact Qk
 have z1:u.1.size=w.1.size+1:=by rw[<-I];simp
 rw[<-z1];clear I;have Y:Own (u.alloc (.cells ((List.replicate 10 (0:UInt8)).map bv).toArray 345)) u.1.size 345 (some ⟨u.1.size,0,none⟩) 10 10 (List.replicate 10 0):=
  Own.of_whole (Nat.le_refl _) (heap_alloc_new u _) (by simp) (by unfold maxLen;omega)
 have Z:Below u.1.size u (u.alloc (.cells ((List.replicate 10 (0:UInt8)).map bv).toArray 345)):=Qk;rw[show ((List.replicate 10 (0:UInt8)).map bv).toArray=#[.int .u8 0,.int .u8 0,.int .u8 0,.int .u8 0,.int .u8 0,.int .u8 0,.int .u8 0,.int .u8 0,.int .u8 0,.int .u8 0] from rfl] at Y Z;generalize u.alloc (.cells #[.int .u8 0,.int .u8 0,.int .u8 0,.int .u8 0,.int .u8 0,.int .u8 0,.int .u8 0,.int .u8 0,.int .u8 0,.int .u8 0] 345)=J at Y Z ⊢;have V2:=V1.below Z V1.lt;have z2:u.1.size<=J.1.size:=Z.size;have M:u.1.size<J.1.size:=(Y.block _ rfl).2;have B2:Below w.1.size w J:=b1.trans (Z.mono (by omega));obtain⟨y,a8⟩:∃y,u.1.size=y:=⟨_,rfl⟩;have b6:=λd=>qwf y d
 rw[a8] at Y M ⊢;have W:w.1.size<y:=by omega
 have q2:=V2.c0;obtain⟨ps,X⟩:∃ps,splice (List.replicate 10 (0:UInt8)) 0 v.name.data.toList=ps:=⟨_,rfl⟩;have O:=Lib.hid (X.symm.trans (ql7 v.name hv));have K:∀d:World,Below y J d->d.cell? ⟨w.1.size,0,none⟩=some (.string v.name)/\Below y J d:=λd hb=>⟨(hb.cell (p:=⟨w.1.size,0,none⟩) W).trans q2,hb⟩
 have T:Below y J J.drew:=(Below.refl _ _).drew;go_region_held3 (λd=>d.cell? ⟨w.1.size,0,none⟩=some (.string v.name)/\Below y J d)
  (first|assumption|exact K _ T|exact K _ G)
  (first
   |(refine qh1 rfl (.tmp 6) (.tmp 8) 48 9 5 rfl Tryz.underlying48 (by kernel_rfl) y y 10 (List.replicate 10 0) 345 (by first|exact Y|exact Y.drew) v.name rfl rfl hv ?_;intro f m U;rw[X] at m;have G:Below y J f:=(by first|exact T.trans U|exact U))
   |fail)
 have B3:Below w.1.size w f:=B2.trans (G.mono (by omega));have V3:=V2.below G W;have b0:=hs.below B3;have z3:=(m.block _ rfl).2;rw[O.out] at m;clear K T Y hs q2 V2 V1 b1 Z B2 G U X;go_wp2_with fail
 have q3:=V3.c0;have K:∀d:World,Below f.1.size f d->d.cell? ⟨w.1.size,0,none⟩=some (.string v.name)/\Below f.1.size f d:=λd hb=>⟨(hb.cell (p:=⟨w.1.size,0,none⟩) V3.lt).trans q3,hb⟩
 have T:Below f.1.size f f.drew:=(Below.refl _ _).drew;have z4:f.1.size<=f.drew.1.size:=Nat.le_refl _;have p1:(1:Int)<=1:=by omega
 have p2:(1:Int)<=8:=by omega
 have p3:n<=17592186044416:=by omega
 have D:=m.sl;go_region_held3 (λd=>d.cell? ⟨w.1.size,0,none⟩=some (.string v.name)/\Below f.1.size f d)
  (first|assumption|exact K _ T|exact K _ B|exact K _ H)
  (first
   |((refine qb7 Ig rfl (.tmp 14) (.tmp 15) rfl f.1.size A5 n5 c5 _ rfl Q (some ⟨y,0,none⟩) 10 10 (Ar v.name) rfl (D.below B) p5 B.size ?_);intro A6 c6 w6 F a2;have H:Below f.1.size f w6:=B.trans a2)
   |(go_at_call 180;refine (q72 A n c _ (v.name.size:Int) 1 _ b0.drew p3 p1 p2).mono ?_;rintro e w5 ⟨A5,n5,c5,rfl,E,b8,a1⟩;have Q:Own w5 f.1.size 5 A5 n5 c5 _:=E;have B:Below f.1.size f w5:=T.trans (a1.mono z4);have p5:n5+10<=140737488355328:=by omega)
   |fail)
 all_goals
  have V6:=V3.below H V3.lt;have B6:=B3.trans (H.mono B3.size);have F:=F.less B3.size;clear K T Q E a1 a2 B H m D b0 V3 B3 b6 p5 z4 O z1 a8 M W z2 z3 q3;have q6:=V6.c1;go_wp2_with fail
  refine (ql6 v.ro _).mono ?_;rintro e w7 ⟨rfl,rfl⟩;go_wp2_with fail
  refine (q72 A6 (n5+10) c6 _ (Nq v.ro) 1 _ F.sl (by omega) (by omega) (by omega)).mono ?_;rintro e w7 ⟨A7,n7,c7,rfl,b3,b9,a6⟩;have V7:=V6.below a6 V6.lt;have B7:=B6.trans (a6.mono B6.size);have q7:=V7.c2;clear q6;go_wp2_with fail
  refine (q72 A7 n7 c7 _ v.root 2 _ b3.sl (by omega) (by omega) (by omega)).mono ?_;rintro e w8 ⟨A8,n8,c8,rfl,b4,d0,a7⟩;have V8:=V7.below a7 V7.lt;have B8:=B7.trans (a7.mono B7.size);have q8:=V8.c3;clear q7;go_wp2_with fail
  refine (q72 A8 n8 c8 _ v.next 4 _ b4.sl (by omega) (by omega) (by omega)).mono ?_;rintro e w9 ⟨A9,n9,c9,rfl,R,d1,b5⟩;have B9:=B8.trans (b5.mono B8.size);go_wp2;go_ret;refine⟨A9,n9,c9,rfl,?_,by omega,B9⟩;have e9:l++Qy (v.name.size:Int) (1:Int).toNat++Ar v.name++Qy (Nq v.ro) (1:Int).toNat++Qy v.root (2:Int).toNat++Qy v.next (4:Int).toNat=l++Xl v:=by
   unfold Xl;simp only[List.append_assoc];rfl
  rw[e9] at R;exact R.less B8.size
theorem qyh (d:BinOp)(x y:Operand)(xs e:Array Value)(w:World):(eqGuard d 117 x y (.agg xs) (.agg e)).run Tryz.prog w=.ok () w:=
 run_eqGuard_agg w d 117 x y xs e (by kernel_rfl)
theorem qyi (x:Vl)(r:Bool)(h:x.same Vl.zero=r)(w:World):(binOp .neq 117 (.agg #[.string x.name,.bool x.ro,.int .i64 x.root,.int .i64 x.next]) (.agg #[.string ⟨#[]⟩,.bool false,.int .i64 0,.int .i64 0])).run Tryz.prog w=.ok (.bool (!r)) w:=qye x Vl.zero r h w
theorem SB.Qax {w:World}{b:Nat}{S:Sp}(H:SB w b S){k:Nat}(hk:k<=8):Fg w (some ⟨b,3,none⟩) k 8 (S.Jo.take k):=by
 have:=H.Uo.take hk;unfold Fg;rwa [List.map_take]
theorem Qcf (b k:Nat)(f:k<=8)(w:World):(Instr.sliceAt 118 (.pointer (some ⟨b,3,none⟩)) none (some (.int .i64 (k:Int))) none).run Tryz.prog w=.ok (.slice (some ⟨b,3,none⟩) k 8) w:=by
 have d:Tryz.prog.arrayLen 118=8:=by kernel_rfl
 have e:(sizeOf (Tryz.prog.elem 118)).run Tryz.prog w=.ok 4 w:=by kernel_rfl
 rw[run_sliceAt_array_h w 118 _ (by kernel_rfl) .i64 _ (by omega) (by rw[d];omega),e,d];simp[slicedAt,Result.andThen,Addr.add_mid]
theorem qsk (S:Sp)(r:Bool)(hr:S.may=r)(hf:S.fine)(w:World) :
  Calls Tryz.prog 76 #[.agg S.vs.toArray] w λe w'=>e=.returned (.bool r)/\Below w.1.size w w':=by
 subst hr;have I:=SB.new w S 120;have D:Below w.1.size w (w.alloc (.cells S.vs.toArray 120)):=Qk;have q0:=I.c0;have q1:=I.c1;have q2:=I.c2;go_enter Tryz.func76,Tryz.ntmps76
 go_wp2_with fail
 generalize w.alloc (.cells S.vs.toArray 120)=w1 at I D q0 q1 q2 ⊢;by_cases hg:1<=S.gen/\S.gen<=1099511627775
 ·refine (Pg S.gen 1 1099511627775 true (decide_eq_true hg) _).mono ?_;rintro e U ⟨rfl,rfl⟩;go_wp2_with fail
  by_cases H:32<=S.Qa/\S.Qa<=2048
  ·refine (Pg S.Qa 32 2048 true (decide_eq_true H) _).mono ?_;rintro e U ⟨rfl,rfl⟩;go_wp2_with fail
   by_cases hl:0<=S.log/\S.log<=S.Qa-1
   ·refine (Pg S.log 0 (S.Qa-1) true (decide_eq_true hl) _).mono ?_;rintro e U ⟨rfl,rfl⟩;have a1:S.hd=true:=decide_eq_true (by omega);have Q:=Lib.hid (λh=>qnm (S:=S) a1 h);go_wp2_with (first
     |(refine ql5 rfl (.tmp 24) rfl w.1.size rfl S I ?_)
     |fail)
    go_loopw [26] (λi wr=>∃k:Nat,k<=8/\i=.int .i64 (k:Int)/\(∀j<k,S.ok1 j=true)/\Below w1.1.size w1 wr) (λi _=>8-(intOf i).toNat)
    case atStart=>exact⟨0,by omega,rfl,λj hj=>by omega,Below.refl _ _⟩
    case round=>
     obtain⟨k,hk,rfl,B,Y⟩:=hrel;by_cases E:k<8
     ·have R:=qyd S E;have a7:(0:Int)<=(k:Int):=by omega
      obtain⟨x,hx⟩:∃x,S.at_ k=x:=⟨_,rfl⟩;have G:=hf k E;rw[hx] at R G;have p:=Lib.hid (show S.ok1 k=(x.same Vl.zero||(x.ok S.Qa&&!Kv (S.Jo.take k) x.name)) by unfold Sp.ok1;rw[hx]);clear hx;have Hr:=I.below Y I.lt;go_wp2_with fail
      have bx:Below wr.1.size wr (wr.alloc (.cells #[.string x.name,.bool x.ro,.int .i64 x.root,.int .i64 x.next] 117)):=Qk;have O:(wr.alloc (.cells #[.string x.name,.bool x.ro,.int .i64 x.root,.int .i64 x.next] 117)).1[wr.1.size]?=some (.cells #[.string x.name,.bool x.ro,.int .i64 x.root,.int .i64 x.next] 117 (0,0)):=heap_alloc_new wr _;have X:wr.1.size<(wr.alloc (.cells #[.string x.name,.bool x.ro,.int .i64 x.root,.int .i64 x.next] 117)).1.size:=by simp
      generalize wr.alloc (.cells #[.string x.name,.bool x.ro,.int .i64 x.root,.int .i64 x.next] 117)=W at bx O X ⊢;have M:=Hr.below bx Hr.lt;have q0:∀u:Grown W,u.to.cell? ⟨wr.1.size,0,none⟩=some (.string x.name):=Grown.cell (by rw[cell_of_row _ _ _ _ _ _ O];rfl) X;have q1:∀u:Grown W,u.to.cell? ⟨wr.1.size,1,none⟩=some (.bool x.ro):=Grown.cell (by rw[cell_of_row _ _ _ _ _ _ O];rfl) X;have q2:∀u:Grown W,u.to.cell? ⟨wr.1.size,2,none⟩=some (.int .i64 x.root):=Grown.cell (by rw[cell_of_row _ _ _ _ _ _ O];rfl) X;have q3:∀u:Grown W,u.to.cell? ⟨wr.1.size,3,none⟩=some (.int .i64 x.next):=Grown.cell (by rw[cell_of_row _ _ _ _ _ _ O];rfl) X;have q4:∀u:Grown W,u.to.cell? ⟨w.1.size,1,none⟩=some (.int .i64 S.Qa):=Grown.cell M.c1 M.lt;have d:=Y.trans (bx.mono Y.size);have hG:=qyh;have a8:=Qcf w.1.size k (by omega);clear O R;obtain⟨z,Z⟩:∃z,x.same Vl.zero=z:=⟨_,rfl⟩;have a6:=qyi x z Z
      cases z
      ·obtain⟨m,y⟩:∃m,x.ok S.Qa=m:=⟨_,rfl⟩
       cases m
       ·have K:=Lib.hid (qvr (S:=S) E (by rw[p.out,Z,y];rfl));refine Uk (by kernel_rfl) (by kernel_rfl) ?_;repeat (go_big_quiet_step (first
         |(go_at_call 126;exact Calls.grown (q5o x S.Qa H.1 H.2 false y G _))
         |fail))
        refine wpQuiet_nil ?_;rintro _ ⟨u,rfl⟩;have f:=d.trans (u.ok.mono d.size);go_wp2;go_ret;exact⟨by rw[K.out];rfl,D.trans (f.mono D.size)⟩
       ·obtain⟨nm,F⟩:∃nm,Kv (S.Jo.take k) x.name=nm:=⟨_,rfl⟩
        cases nm
        ·have HZ:=Lib.hid (show (x.same Vl.zero||(x.ok S.Qa&&!Kv (S.Jo.take k) x.name))=true by rw[y,F];simp);refine Uk (by kernel_rfl) (by kernel_rfl) ?_;repeat (go_big_quiet_step (first
          |(go_at_call 126;exact Calls.grown (q5o x S.Qa H.1 H.2 true y G _))
          |(go_at_call 127;exact Calls.grown (qbh (S.Jo.take k) x.name false F _ k 8 _ ((M.below (Grown.ok _) M.lt).Qax (by omega)) (by omega)))
          |fail))
         refine wpQuiet_nil ?_;rintro _ ⟨u,rfl⟩;have f:=d.trans (u.ok.mono d.size);go_wp2;refine⟨⟨k+1,by omega,by go_num,λj hj=>?_,f⟩,by simp[intOf];omega⟩;by_cases J:j=k
         ·rw[J,p.out,HZ.out]
         ·exact B j (by omega)
        ·have K:=Lib.hid (qvr (S:=S) E (by rw[p.out,Z,y,F];rfl));refine Uk (by kernel_rfl) (by kernel_rfl) ?_;repeat (go_big_quiet_step (first
          |(go_at_call 126;exact Calls.grown (q5o x S.Qa H.1 H.2 true y G _))
          |(go_at_call 127;exact Calls.grown (qbh (S.Jo.take k) x.name true F _ k 8 _ ((M.below (Grown.ok _) M.lt).Qax (by omega)) (by omega)))
          |fail))
         refine wpQuiet_nil ?_;rintro _ ⟨u,rfl⟩;have f:=d.trans (u.ok.mono d.size);go_wp2;go_ret;exact⟨by rw[K.out];rfl,D.trans (f.mono D.size)⟩
      ·have HZ:=Lib.hid (show (x.same Vl.zero||(x.ok S.Qa&&!Kv (S.Jo.take k) x.name))=true by rw[Z];rfl);refine Uk (by kernel_rfl) (by kernel_rfl) ?_;repeat (go_big_quiet_step (first
        |fail))
       refine wpQuiet_nil ?_;rintro _ ⟨u,rfl⟩;have f:=d.trans (u.ok.mono d.size);go_wp2;refine⟨⟨k+1,by omega,by go_num,λj hj=>?_,f⟩,by simp[intOf];omega⟩;by_cases J:j=k
       ·rw[J,p.out,HZ.out]
       ·exact B j (by omega)
     ·have a2:k=8:=by omega
      have T:=Lib.hid (Q.out (by rw[<-a2];exact B));go_wp2;go_ret;exact⟨by rw[T.out];rfl,D.trans (Y.mono D.size)⟩
   ·refine (Pg S.log 0 (S.Qa-1) false (decide_eq_false hl) _).mono ?_;rintro e U ⟨rfl,rfl⟩;have A:=Lib.hid (qnn (S:=S) (decide_eq_false (by omega)));go_wp2;go_ret;exact⟨by rw[A.out];rfl,D⟩
  ·refine (Pg S.Qa 32 2048 false (decide_eq_false H) _).mono ?_;rintro e U ⟨rfl,rfl⟩;have A:=Lib.hid (qnn (S:=S) (decide_eq_false (by omega)));go_wp2;go_ret;exact⟨by rw[A.out];rfl,D⟩
 ·refine (Pg S.gen 1 1099511627775 false (decide_eq_false hg) _).mono ?_;rintro e U ⟨rfl,rfl⟩;have A:=Lib.hid (qnn (S:=S) (decide_eq_false (by omega)));go_wp2;go_ret;exact⟨by rw[A.out];rfl,D⟩
