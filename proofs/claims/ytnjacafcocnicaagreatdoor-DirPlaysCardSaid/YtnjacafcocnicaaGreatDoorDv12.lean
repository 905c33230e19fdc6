/- Superblocks: the code's mayVol, named and May -/
import Derived.Test.YtnjacafcocnicaaGreatDoorDv11
namespace Go.Proofs.YtnjacafcocnicaaGreatDoor
open Go Go.RowKit Go.Proofs Tryz
set_option maxHeartbeats 4000000
set_option maxRecDepth 100000
def Vl.ok (v:Vl)(n:Int):Bool:=Ep v.name&&(decide (0<=v.root/\v.root<=n-1)&&decide (2<=v.next/\v.next<=2147483647))
def Vm (l:List Vl)(s:ByteArray):Bool:=l.any λu=>u.name.toList==s.toList
def Sp.ok1 (S:Sp)(i:Nat):Bool:=(S.at_ i).same Vl.zero||((S.at_ i).ok S.Qb&&!Vm (S.Jl.take i) (S.at_ i).name)
def Sp.hd (S:Sp):Bool:=decide (1<=S.gen/\S.gen<=1099511627775/\32<=S.Qb/\S.Qb<=2048/\0<=S.log/\S.log<=S.Qb-1)
def Sp.may (S:Sp):Bool:=S.hd&&(List.range 8).all S.ok1
def Sp.fine (S:Sp):Prop:=∀k,k<8->(S.at_ k).name.size<=maxLen
theorem qyn {S:Sp}{j:Nat}(e:j<8)(h:S.ok1 j=false):S.may=false:=by
 have:(List.range 8).all S.ok1=false:=by
  rw[List.all_eq_false];exact⟨j,List.mem_range.2 e,by rw[h];simp⟩
 unfold Sp.may;rw[this,Bool.and_false]
theorem qj1 {S:Sp}(h0:S.hd=true)(h:∀j,j<8->S.ok1 j=true):S.may=true:=by
 have:(List.range 8).all S.ok1=true:=by
  rw[List.all_eq_true];exact λj e=>h j (List.mem_range.1 e)
 unfold Sp.may;rw[this,h0];rfl
theorem qq0 {S:Sp}(h:S.hd=false):S.may=false:=by unfold Sp.may;rw[h,Bool.false_and]
theorem q6b (v:Vl)(n:Int)(h1:32<=n)(h2:n<=2048)(r:Bool)(y:v.ok n=r)(hm:v.name.size<=maxLen)(w:WD) :
  Calls prog 87 #[.agg #[.string v.name,.bool v.ro,.int .i64 v.root,.int .i64 v.next],.int .i64 n] w λe A=>e=.returned (.bool r)/\Below w.1.size w A:=by
 subst y;obtain⟨a,p⟩:∃a,Ep v.name=a:=⟨_,rfl⟩;obtain⟨b,q⟩:∃b,decide (0<=v.root/\v.root<=n-1)=b:=⟨_,rfl⟩;obtain⟨c,u⟩:∃c,decide (2<=v.next/\v.next<=2147483647)=c:=⟨_,rfl⟩;have f:=HI (show v.ok n=(a&&(b&&c)) by unfold Vl.ok;rw[p,q,u]);go_enter func87,ntmps87
 cases a
 ·go_wp2_with (first
   |(go_at_call 149;refine (q7x v.name false p _ hm).mono ?_;rintro e m ⟨rfl,rfl⟩)
   |fail)
  go_ret;exact⟨by rw[f.out];rfl,Qi⟩
 ·cases b
  ·go_wp2_with (first
    |(go_at_call 149;refine (q7x v.name true p _ hm).mono ?_;rintro e m ⟨rfl,rfl⟩)
    |(go_at_call 86;refine (q0u v.root 0 (n-1) false q _).mono ?_;rintro e m ⟨rfl,rfl⟩)
    |fail)
   go_ret;exact⟨by rw[f.out];rfl,Qi⟩
  ·go_wp2_with (first
    |(go_at_call 149;refine (q7x v.name true p _ hm).mono ?_;rintro e m ⟨rfl,rfl⟩)
    |fail)
   refine (q0u v.root 0 (n-1) true q _).mono ?_;rintro e m ⟨rfl,rfl⟩;go_wp2_with fail
   refine (q0u v.next 2 2147483647 c u _).mono ?_;rintro e m ⟨rfl,rfl⟩;go_wp2;go_ret;exact⟨by rw[f.out];rfl,Qi⟩
def Ea (l:List Vl)(j:Nat):Vl:=l.getD j Vl.zero
theorem qeh {l:List Vl}{j:Nat}(h:j<l.length):l[j]?=some (Ea l j):=by simp[Ea,List.getD,h]
def I9 (w:WD)(A:OA)(n c:Nat)(l:List Vl):Prop:=Jp w 4 A n c (l.map Vl.vs)
theorem I9.len {w:WD}{A:OA}{n c:Nat}{l:List Vl}(h:I9 w A n c l):l.length=n:=by simpa using Jp.len h
theorem I9.cell {w:WD}{A:OA}{n c:Nat}{l:List Vl}(h:I9 w A n c l){j:Nat}(hj:j<n):∃g o,A=some ⟨g,o,none⟩/\g<w.1.size/\w.cell? ⟨g,o+j*4,none⟩=some (.string (Ea l j).name)/\w.cell? ⟨g,o+j*4+1,none⟩=some (.bool (Ea l j).ro)/\
  w.cell? ⟨g,o+j*4+2,none⟩=some (.int .i64 (Ea l j).root)/\w.cell? ⟨g,o+j*4+3,none⟩=some (.int .i64 (Ea l j).next):=by
 have m:=h.len;obtain⟨g,o,rfl,f,_,e⟩:=h.2.2.2 j (Ea l j).vs (by rw[BA,qeh (by omega)];rfl);exact⟨g,o,rfl,f,e 0 _ rfl,e 1 _ rfl,e 2 _ rfl,e 3 _ rfl⟩
theorem qq1 {l:List Vl}{s:ByteArray}{j:Nat}(e:j<l.length)(h:((Ea l j).name.toList==s.toList)=true):Vm l s=true:=by
 unfold Vm;rw[List.any_eq_true];exact⟨_,List.mem_of_getElem? (qeh e),h⟩
theorem qv5 {l:List Vl}{s:ByteArray}(h:∀j,j<l.length->((Ea l j).name.toList==s.toList)=false):Vm l s=false:=by
 unfold Vm;rw[List.any_eq_false];intro u m;obtain⟨j,f,rfl⟩:=List.getElem_of_mem m;have:=h j f;have e:=qeh f;rw[AC f] at e;injection e with e;rw[<-e] at this;rw[this];simp
theorem qct (l:List Vl)(s:ByteArray)(r:Bool)(G:Vm l s=r)(A:OA)(n c:Nat)(w:WD)(h:I9 w A n c l)(_:n<=100000) :
  Calls prog 88 #[.slice A n c,.string s] w λe R=>e=.returned (.bool r)/\Below w.1.size w R:=by
 subst G;have f:=HI h.len;have M:=Jp.cap h;have y:=Jp.max h;unfold maxLen at y;go_enter func88,ntmps88
 go_wp2_with fail
 go_loopw [9] (λi wr=>∃j:Nat,j<=n/\i=.int .i64 (j:Int)/\(∀q,q<j->((Ea l q).name.toList==s.toList)=false)/\Below w.1.size w wr) (λi _=>n-(intOf i).toNat)
 case atStart=>exact⟨0,AW _,rfl,λq E=>by omega,AI _ _⟩
 case round=>
  obtain⟨j,U,rfl,m,p⟩:=hrel;by_cases u:j<n
  ·have G:I9 wr A n c l:=Jp.below h p;obtain⟨g,o,K,T,c0,c1,c2,c3⟩:=G.cell u;subst K;obtain⟨x,H⟩:∃x,Ea l j=x:=⟨_,rfl⟩;rw[H] at c0 c1 c2 c3;have I:=HI H;clear H;have O:(0:Int)<=(j:Int):=by omega
   have J:Below wr.1.size wr (wr.alloc (.cells #[.string x.name,.bool x.ro,.int .i64 x.root,.int .i64 x.next] 100)):=Qi
   cases E:x.name.toList==s.toList
   ·go_wp2;refine⟨⟨j+1,by omega,by go_num,λq Q=>?_,p.trans (J.mono p.size)⟩,by simp[intOf];omega⟩;by_cases F:q=j
    ·rw[F,I.out];exact E
    ·exact m q (by omega)
   ·go_wp2;go_ret;exact⟨by rw[qq1 (j:=j) (by rw[f.out];exact u) (by rw[I.out];exact E)];rfl,p.trans (J.mono p.size)⟩
  ·have B:j=n:=by omega
   have D:=HI (qv5 (l:=l) (s:=s) (by rw[f.out,<-B];exact m));go_wp2;go_ret;exact⟨by rw[D.out];rfl,p⟩
def Bq (s:ByteArray):LU:=s.data.toList++List.replicate (10-s.size) 0
def Xz (v:Vl):LU:=Qx (v.name.size:Int) 1++(Bq v.name++(Qx (P8 v.ro) 1++(Qx v.root 2++Qx v.next 4)))
def Zy (S:Sp)(k:Nat):LU:=Qx S.Qb 2++(Qx S.log 2++(S.Jl.take k).flatMap Xz)
theorem q9q (s:ByteArray)(h:s.size<=10):(Bq s).length=10:=by unfold Bq;simp;omega
theorem qv6 (v:Vl)(h:v.name.size<=10):(Xz v).length=18:=by unfold Xz;simp[q9q _ h,J8]
theorem qae (S:Sp):Zy S 0=Qx S.Qb 2++Qx S.log 2:=by unfold Zy;simp
theorem qaf (S:Sp){k:Nat}(e:k<8):Zy S (k+1)=Zy S k++Xz (S.at_ k):=by
 unfold Zy;have h:=S.get e;have f:k<S.Jl.length:=by rw[S.len];exact e
 rw[AC f] at h;rw[List.take_succ_eq_append_getElem f,List.flatMap_append,OI h];simp
theorem Xg (S:Sp)(k:Nat)(e:k<=8)(h:∀j,j<8->(S.at_ j).name.size<=10):(Zy S k).length=4+18*k:=by
 induction k with
 |zero=>rw[qae];simp[J8]
 |succ k ih=>rw[qaf S (by omega),AD,ih (by omega),qv6 _ (h k (by omega))];omega
theorem q7y (A:OA)(k c:Nat)(l:LU)(x n:Int)(w:WD)(h:Sl w A k c l)(y:k<=17592186044416)(h1:1<=n)(h2:n<=8) :
  Calls prog 126 #[.slice A k c,.int .i64 x,.int .i64 n] w λe q=>∃m f p,e=.returned (.slice m f p)/\Own q w.1.size 5 m f p (l++Qx x n.toNat)/\(f<=k+n.toNat/\k+n.toNat<=f)/\Below w.1.size w q:=by
 refine (q7t A k c l x n w h y).mono ?_;rw[qBl l x n h1 h2];rintro e q ⟨m,f,p,rfl,own,u⟩;have:=own.len;rw[AD,J8,h.len] at this;exact⟨m,f,p,rfl,own,⟨by omega,by omega⟩,u⟩
section
variable {P:Program}{w:WD}
theorem qgb (u H ty f:TypeId)(g n:Nat)(l:LU)(A:TypeId)(e:ByteArray)(G:P.underlying u=some (.slice f))(F:(P.info? f).map (·.size)=some 1)
  (E:w.1[g]?=some (.cells (l.map bv).toArray A (0,0))) (hn:l.length=n) (q:e.size<=n) :
  (Builtin.copy_ #[u,H] ty #[.slice (some ⟨g,0,none⟩) n n,.string e]).run P w=.ok (goInt e.size) (w.setRow g ((splice l 0 e.data.toList).map bv).toArray):=by
 have m:(e.data.toList.map bv).length=e.size:=by simp
 have p:=run_storeCells_at P g 0 A (e.data.toList.map bv) 0 (l.map bv).toArray w E (by rw[m];simp;omega) (qg2 _);have hm:Nat.min e.size n=e.size:=Nat.min_eq_left q;have I:(Array.map (λb:UInt8=>Value.int .u8 (b.toNat:Int)) (e.extract 0 e.size).data).toList=e.data.toList.map bv:=by
  have:e.extract 0 e.size=e:=by ext1;simp
  rw[this];simp[bv]
 have B:((l.map bv).toArray.toList.take (0+0)++e.data.toList.map bv++(l.map bv).toArray.toList.drop (0+0+(e.data.toList.map bv).length))=(splice l 0 e.data.toList).map bv:=by
  unfold splice;simp
 rw[B] at p
 cases y:P.info? f with
 |none=>simp[y] at F
 |some i=>
  simp only[Builtin.copy_,Builtin.lenOf,Builtin.firstCells,sizeOf,typeInfo];simp only[List.getElem?_toArray,List.getElem?_cons_zero,List.getElem?_cons_succ,Sem.run_bind];simp[run_underlying G,y,hm];have D:List.take e.size (List.map (λb:UInt8=>Value.int .u8 (b.toNat:Int)) e.data.toList)=e.data.toList.map bv:=by
   rw[AN (by simp)];rfl
  rw[D,p];rfl
theorem qj2 {B:Array Oper}{o:Oper}{a:Act}{K:Act->WD->Prop}{Q:Exit->Act->WD->Prop}{E:Prop}(y:o.guard=none)(d s:Operand)(u H f:TypeId)
  (O:o.op=.call { callee:=.builtin .copy,args:=#[d,s],argTypes:=#[u,H] }) (T:P.underlying u=some (.slice f)) (R:(P.info? f).map (·.size)=some 1)
  (base g n:Nat) (l:LU) (q:TypeId) (m:Own w base q (some ⟨g,0,none⟩) n n l) (e:ByteArray) (hd:a.eval d=.slice (some ⟨g,0,none⟩) n n) (U:a.eval s=.string e) (A:e.size<=n)
  (J:∀D,Own D base q (some ⟨g,0,none⟩) n n (splice l 0 e.data.toList)->Below g w D->K (a.put o.dst (goInt e.size)) D):if Region.wanted o (yielded B a.tmps)=true then Oper.wp P o a w K Q else E:=by
 rw[AA (by simp[Region.wanted,y])];obtain⟨M,F,hm⟩:=m.whole;have G:=m.len;have p:=qgb (P:=P) u H o.type f g n l q e T R F G A;have h2:Own (w.setRow g ((splice l 0 e.data.toList).map bv).toArray) base q (some ⟨g,0,none⟩) n n (splice l 0 e.data.toList):=
  Own.of_whole M (setRow_heap w g _ _ q _ F) (by rw[length_splice _ _ _ (by simp;omega),G]) hm
 have I:Below g w (w.setRow g ((splice l 0 e.data.toList).map bv).toArray):=below_setRow (AI _ _) (AE _) _;unfold Oper.wp execOp;simp only[O,resolve,invoke,builtin,Sem.run_bind,Sem.run_pure,Result.andThen_ok,List.map_toArray,BJ,List.map_nil,hd,U,p];exact J _ h2 I
theorem qcf {t e:TypeId}(T:Ug P t e){I:Array Oper}{o:Oper}{a:Act}{K:Act->WD->Prop}{Q:Exit->Act->WD->Prop}{E:Prop}(F:o.guard=none)(s x:Operand)
  (M:o.op=.call { callee:=.builtin .append,args:=#[s,x],argTypes:=#[t,t] })
  (base:Nat) (A:OA) (n c:Nat) (l:LU) (R:a.eval s=.slice A n c) (p:Own w base e A n c l)
  (B:OA) (m d:Nat) (H:LU) (U:a.eval x=.slice B m d) (O:Sl w B m d H) (G:n+m<=140737488355328) (f:base<=w.1.size)
  (h:∀y D u,Own u base e y (n+m) D (l++H)->Below base w u->K (a.put o.dst (.slice y (n+m) D)) u) :
  if Region.wanted o (yielded I a.tmps)=true then Oper.wp P o a w K Q else E:=by
 rw[AA (by simp[Region.wanted,F])];obtain⟨y,D,u,q,h2,J,_⟩:=q6s (P:=P) w T o.type base A n c l p B m d H O G f;unfold Oper.wp execOp;simp only[M,resolve,invoke,builtin,Sem.run_bind,Sem.run_pure,Result.andThen_ok,List.map_toArray,BJ,List.map_nil,R,U,q];exact h y D u h2 J
end
theorem qzi (b:Nat)(w:WD):(Instr.sliceAt 282 (.pointer (some ⟨b,0,none⟩)) none none none).run prog w=.ok (.slice (some ⟨b,0,none⟩) 10 10) w:=by
 have e:prog.arrayLen 282=10:=by kernel_rfl
 have f:(sizeOf (prog.elem 282)).run prog w=.ok 1 w:=by kernel_rfl
 rw[run_sliceAt_array_all w 282 _ (by kernel_rfl),f,e];simp[slicedAt,Result.andThen,Addr.add_mid]
theorem qnn (s:ByteArray)(_:s.size<=10):splice (List.replicate 10 0) 0 s.data.toList=Bq s:=by
 have e:splice (List.replicate 10 (0:UInt8)) 0 s.data.toList=s.data.toList++(List.replicate 10 (0:UInt8)).drop s.data.toList.length:=by unfold splice;rw[List.take_zero,BG,AT]
 rw[e,List.drop_replicate];rfl
theorem qno (v:Vl)(hv:v.name.size<=10)(A:OA)(n c:Nat)(l:LU)(w:WD)(hs:Sl w A n c l)(hn:n<=100000) :
  Calls prog 181 #[.slice A n c,.agg #[.string v.name,.bool v.ro,.int .i64 v.root,.int .i64 v.next]] w λe f=>
   ∃A' n' c',e=.returned (.slice A' n' c')/\Own f w.1.size 5 A' n' c' (l++Xz v)/\n'=n+18/\Below w.1.size w f:=by
 have b7:=HI hs.len;go_enter func181,ntmps181
 go_wp2_with fail
 generalize I:w.alloc (.cells #[.string v.name,.bool v.ro,.int .i64 v.root,.int .i64 v.next] 100)=u;have V1:VB u w.1.size v:=by rw[<-I];exact VB.new w v _
 have b1:Below w.1.size w u:=by rw[<-I];exact Qi
 have z1:u.1.size=w.1.size+1:=by rw[<-I];simp
 rw[<-z1];clear I;have X:Own (u.alloc (.cells ((List.replicate 10 (0:UInt8)).map bv).toArray 282)) u.1.size 282 (some ⟨u.1.size,0,none⟩) 10 10 (List.replicate 10 0):=
  Own.of_whole (AE _) (BE u _) (by simp) (by unfold maxLen;omega)
 have Y:Below u.1.size u (u.alloc (.cells ((List.replicate 10 (0:UInt8)).map bv).toArray 282)):=Qi;rw[show ((List.replicate 10 (0:UInt8)).map bv).toArray=#[.int .u8 0,.int .u8 0,.int .u8 0,.int .u8 0,.int .u8 0,.int .u8 0,.int .u8 0,.int .u8 0,.int .u8 0,.int .u8 0] from rfl] at X Y;generalize u.alloc (.cells #[.int .u8 0,.int .u8 0,.int .u8 0,.int .u8 0,.int .u8 0,.int .u8 0,.int .u8 0,.int .u8 0,.int .u8 0,.int .u8 0] 282)=J at X Y ⊢;have V2:=V1.below Y V1.lt;have z2:u.1.size<=J.1.size:=Y.size;have M:u.1.size<J.1.size:=(X.block _ rfl).2;have B2:Below w.1.size w J:=b1.trans (Y.mono (by omega));obtain⟨y,a8⟩:∃y,u.1.size=y:=⟨_,rfl⟩;have b6:=λf=>qzi y f
 rw[a8] at X M ⊢;have V:w.1.size<y:=by omega
 have q2:=V2.c0;obtain⟨ps,W⟩:∃ps,splice (List.replicate 10 (0:UInt8)) 0 v.name.data.toList=ps:=⟨_,rfl⟩;have O:=HI (W.symm.trans (qnn v.name hv));have K:∀f:WD,Below y J f->f.cell? ⟨w.1.size,0,none⟩=some (.string v.name)/\Below y J f:=λf hb=>⟨(hb.cell (p:=⟨w.1.size,0,none⟩) V).trans q2,hb⟩
 have T:Below y J J.drew:=(AI _ _).drew;go_region_held3 (λf=>f.cell? ⟨w.1.size,0,none⟩=some (.string v.name)/\Below y J f)
  (first|assumption|exact K _ T|exact K _ G)
  (first
   |(refine qj2 rfl (.tmp 6) (.tmp 8) 48 9 5 rfl underlying48 (by kernel_rfl) y y 10 (List.replicate 10 0) 282 (by first|exact X|exact X.drew) v.name rfl rfl hv ?_;intro m q U;rw[W] at q;have G:Below y J m:=(by first|exact T.trans U|exact U))
   |fail)
 have Z:Below w.1.size w m:=B2.trans (G.mono (by omega));have V3:=V2.below G V;have b0:=hs.below Z;have z3:=(q.block _ rfl).2;rw[O.out] at q;clear K T X hs q2 V2 V1 b1 Y B2 G U W;go_wp2_with fail
 have q3:=V3.c0;have K:∀f:WD,Below m.1.size m f->f.cell? ⟨w.1.size,0,none⟩=some (.string v.name)/\Below m.1.size m f:=λf hb=>⟨(hb.cell (p:=⟨w.1.size,0,none⟩) V3.lt).trans q3,hb⟩
 have T:Below m.1.size m m.drew:=(AI _ _).drew;have z4:m.1.size<=m.drew.1.size:=AE _;have p1:(1:Int)<=1:=by omega
 have p2:(1:Int)<=8:=by omega
 have p3:n<=17592186044416:=by omega
 have D:=q.sl;go_region_held3 (λf=>f.cell? ⟨w.1.size,0,none⟩=some (.string v.name)/\Below m.1.size m f)
  (first|assumption|exact K _ T|exact K _ B|exact K _ H)
  (first
   |((refine qcf Cb rfl (.tmp 14) (.tmp 15) rfl m.1.size A5 n5 c5 _ rfl Q (some ⟨y,0,none⟩) 10 10 (Bq v.name) rfl (D.below B) p5 B.size ?_);intro A6 c6 w6 F a2;have H:Below m.1.size m w6:=B.trans a2)
   |(go_at_call 126;refine (q7y A n c _ (v.name.size:Int) 1 _ b0.drew p3 p1 p2).mono ?_;rintro e w5 ⟨A5,n5,c5,rfl,E,b8,a1⟩;have Q:Own w5 m.1.size 5 A5 n5 c5 _:=E;have B:Below m.1.size m w5:=T.trans (a1.mono z4);have p5:n5+10<=140737488355328:=by omega)
   |fail)
 all_goals
  have V6:=V3.below H V3.lt;have B6:=Z.trans (H.mono Z.size);have F:=F.less Z.size;clear K T Q E a1 a2 B H q D b0 V3 Z b6 p5 z4 O z1 a8 M V z2 z3 q3;have q6:=V6.c1;go_wp2_with fail
  refine (qnm v.ro _).mono ?_;rintro e w7 ⟨rfl,rfl⟩;go_wp2_with fail
  refine (q7y A6 (n5+10) c6 _ (P8 v.ro) 1 _ F.sl (by omega) (by omega) (by omega)).mono ?_;rintro e w7 ⟨A7,n7,c7,rfl,b3,b9,a6⟩;have V7:=V6.below a6 V6.lt;have B7:=B6.trans (a6.mono B6.size);have q7:=V7.c2;clear q6;go_wp2_with fail
  refine (q7y A7 n7 c7 _ v.root 2 _ b3.sl (by omega) (by omega) (by omega)).mono ?_;rintro e w8 ⟨A8,n8,c8,rfl,b4,d0,a7⟩;have V8:=V7.below a7 V7.lt;have B8:=B7.trans (a7.mono B7.size);have q8:=V8.c3;clear q7;go_wp2_with fail
  refine (q7y A8 n8 c8 _ v.next 4 _ b4.sl (by omega) (by omega) (by omega)).mono ?_;rintro e w9 ⟨A9,n9,c9,rfl,R,d1,b5⟩;have B9:=B8.trans (b5.mono B8.size);go_wp2;go_ret;refine⟨A9,n9,c9,rfl,?_,by omega,B9⟩;have e9:l++Qx (v.name.size:Int) (1:Int).toNat++Bq v.name++Qx (P8 v.ro) (1:Int).toNat++Qx v.root (2:Int).toNat++Qx v.next (4:Int).toNat=l++Xz v:=by
   unfold Xz;simp only[AM];rfl
  rw[e9] at R;exact R.less B8.size
theorem qBr (e:BinOp)(x y:Operand)(xs f:Array Value)(w:WD):(eqGuard e 100 x y (.agg xs) (.agg f)).run prog w=.ok () w:=
 run_eqGuard_agg w e 100 x y xs f (by kernel_rfl)
theorem qBs (x:Vl)(r:Bool)(h:x.same Vl.zero=r)(w:WD):(binOp .neq 100 (.agg #[.string x.name,.bool x.ro,.int .i64 x.root,.int .i64 x.next]) (.agg #[.string ⟨#[]⟩,.bool false,.int .i64 0,.int .i64 0])).run prog w=.ok (.bool (!r)) w:=qBo x Vl.zero r h w
theorem SB.Qbn {w:WD}{b:Nat}{S:Sp}(H:SB w b S){k:Nat}(hk:k<=8):I9 w (some ⟨b,3,none⟩) k 8 (S.Jl.take k):=by
 have:=H.Gn.take hk;unfold I9;rwa [List.map_take]
theorem Qcx (b k:Nat)(m:k<=8)(w:WD):(Instr.sliceAt 101 (.pointer (some ⟨b,3,none⟩)) none (some (.int .i64 (k:Int))) none).run prog w=.ok (.slice (some ⟨b,3,none⟩) k 8) w:=by
 have e:prog.arrayLen 101=8:=by kernel_rfl
 have f:(sizeOf (prog.elem 101)).run prog w=.ok 4 w:=by kernel_rfl
 rw[run_sliceAt_array_h w 101 _ (by kernel_rfl) .i64 _ (by omega) (by rw[e];omega),f,e];simp[slicedAt,Result.andThen,Addr.add_mid]
theorem qla (S:Sp)(r:Bool)(hr:S.may=r)(hf:S.fine)(w:WD) :
  Calls prog 51 #[.agg S.vs.toArray] w λe w'=>e=.returned (.bool r)/\Below w.1.size w w':=by
 subst hr;have I:=SB.new w S 103;have D:Below w.1.size w (w.alloc (.cells S.vs.toArray 103)):=Qi;have q0:=I.c0;have q1:=I.c1;have q2:=I.c2;go_enter func51,ntmps51
 go_wp2_with fail
 generalize w.alloc (.cells S.vs.toArray 103)=w1 at I D q0 q1 q2 ⊢;by_cases hg:1<=S.gen/\S.gen<=1099511627775
 ·refine (q0u S.gen 1 1099511627775 true (AL hg) _).mono ?_;rintro e U ⟨rfl,rfl⟩;go_wp2_with fail
  by_cases H:32<=S.Qb/\S.Qb<=2048
  ·refine (q0u S.Qb 32 2048 true (AL H) _).mono ?_;rintro e U ⟨rfl,rfl⟩;go_wp2_with fail
   by_cases hl:0<=S.log/\S.log<=S.Qb-1
   ·refine (q0u S.log 0 (S.Qb-1) true (AL hl) _).mono ?_;rintro e U ⟨rfl,rfl⟩;have a1:S.hd=true:=AL (by omega);have Q:=HI (λh=>qj1 (S:=S) a1 h);go_wp2_with (first
     |(refine qnl rfl (.tmp 24) rfl w.1.size rfl S I ?_)
     |fail)
    go_loopw [26] (λi wr=>∃k:Nat,k<=8/\i=.int .i64 (k:Int)/\(∀j<k,S.ok1 j=true)/\Below w1.1.size w1 wr) (λi _=>8-(intOf i).toNat)
    case atStart=>exact⟨0,by omega,rfl,λj hj=>by omega,AI _ _⟩
    case round=>
     obtain⟨k,hk,rfl,B,X⟩:=hrel;by_cases E:k<8
     ·have R:=qBn S E;have a7:(0:Int)<=(k:Int):=by omega
      obtain⟨x,hx⟩:∃x,S.at_ k=x:=⟨_,rfl⟩;have G:=hf k E;rw[hx] at R G;have q:=HI (show S.ok1 k=(x.same Vl.zero||(x.ok S.Qb&&!Vm (S.Jl.take k) x.name)) by unfold Sp.ok1;rw[hx]);clear hx;have Hr:=I.below X I.lt;go_wp2_with fail
      have bx:Below wr.1.size wr (wr.alloc (.cells #[.string x.name,.bool x.ro,.int .i64 x.root,.int .i64 x.next] 100)):=Qi;have O:(wr.alloc (.cells #[.string x.name,.bool x.ro,.int .i64 x.root,.int .i64 x.next] 100)).1[wr.1.size]?=some (.cells #[.string x.name,.bool x.ro,.int .i64 x.root,.int .i64 x.next] 100 (0,0)):=BE wr _;have W:wr.1.size<(wr.alloc (.cells #[.string x.name,.bool x.ro,.int .i64 x.root,.int .i64 x.next] 100)).1.size:=by simp
      generalize wr.alloc (.cells #[.string x.name,.bool x.ro,.int .i64 x.root,.int .i64 x.next] 100)=V at bx O W ⊢;have M:=Hr.below bx Hr.lt;have q0:∀u:Grown V,u.to.cell? ⟨wr.1.size,0,none⟩=some (.string x.name):=Grown.cell (by rw[cell_of_row _ _ _ _ _ _ O];rfl) W;have q1:∀u:Grown V,u.to.cell? ⟨wr.1.size,1,none⟩=some (.bool x.ro):=Grown.cell (by rw[cell_of_row _ _ _ _ _ _ O];rfl) W;have q2:∀u:Grown V,u.to.cell? ⟨wr.1.size,2,none⟩=some (.int .i64 x.root):=Grown.cell (by rw[cell_of_row _ _ _ _ _ _ O];rfl) W;have q3:∀u:Grown V,u.to.cell? ⟨wr.1.size,3,none⟩=some (.int .i64 x.next):=Grown.cell (by rw[cell_of_row _ _ _ _ _ _ O];rfl) W;have q4:∀u:Grown V,u.to.cell? ⟨w.1.size,1,none⟩=some (.int .i64 S.Qb):=Grown.cell M.c1 M.lt;have f:=X.trans (bx.mono X.size);have hG:=qBr;have a8:=Qcx w.1.size k (by omega);clear O R;obtain⟨z,Y⟩:∃z,x.same Vl.zero=z:=⟨_,rfl⟩;have a6:=qBs x z Y
      cases z
      ·obtain⟨m,y⟩:∃m,x.ok S.Qb=m:=⟨_,rfl⟩
       cases m
       ·have K:=HI (qyn (S:=S) E (by rw[q.out,Y,y];rfl));refine Ux (by kernel_rfl) (by kernel_rfl) ?_;repeat (go_big_quiet_step (first
         |(go_at_call 87;exact Calls.grown (q6b x S.Qb H.1 H.2 false y G _))
         |fail))
        refine wpQuiet_nil ?_;rintro _ ⟨u,rfl⟩;have p:=f.trans (u.ok.mono f.size);go_wp2;go_ret;exact⟨by rw[K.out];rfl,D.trans (p.mono D.size)⟩
       ·obtain⟨nm,F⟩:∃nm,Vm (S.Jl.take k) x.name=nm:=⟨_,rfl⟩
        cases nm
        ·have Z:=HI (show (x.same Vl.zero||(x.ok S.Qb&&!Vm (S.Jl.take k) x.name))=true by rw[y,F];simp);refine Ux (by kernel_rfl) (by kernel_rfl) ?_;repeat (go_big_quiet_step (first
          |(go_at_call 87;exact Calls.grown (q6b x S.Qb H.1 H.2 true y G _))
          |(go_at_call 88;exact Calls.grown (qct (S.Jl.take k) x.name false F _ k 8 _ ((M.below (Grown.ok _) M.lt).Qbn (by omega)) (by omega)))
          |fail))
         refine wpQuiet_nil ?_;rintro _ ⟨u,rfl⟩;have p:=f.trans (u.ok.mono f.size);go_wp2;refine⟨⟨k+1,by omega,by go_num,λj hj=>?_,p⟩,by simp[intOf];omega⟩;by_cases J:j=k
         ·rw[J,q.out,Z.out]
         ·exact B j (by omega)
        ·have K:=HI (qyn (S:=S) E (by rw[q.out,Y,y,F];rfl));refine Ux (by kernel_rfl) (by kernel_rfl) ?_;repeat (go_big_quiet_step (first
          |(go_at_call 87;exact Calls.grown (q6b x S.Qb H.1 H.2 true y G _))
          |(go_at_call 88;exact Calls.grown (qct (S.Jl.take k) x.name true F _ k 8 _ ((M.below (Grown.ok _) M.lt).Qbn (by omega)) (by omega)))
          |fail))
         refine wpQuiet_nil ?_;rintro _ ⟨u,rfl⟩;have p:=f.trans (u.ok.mono f.size);go_wp2;go_ret;exact⟨by rw[K.out];rfl,D.trans (p.mono D.size)⟩
      ·have Z:=HI (show (x.same Vl.zero||(x.ok S.Qb&&!Vm (S.Jl.take k) x.name))=true by rw[Y];rfl);refine Ux (by kernel_rfl) (by kernel_rfl) ?_;repeat (go_big_quiet_step (first
        |fail))
       refine wpQuiet_nil ?_;rintro _ ⟨u,rfl⟩;have p:=f.trans (u.ok.mono f.size);go_wp2;refine⟨⟨k+1,by omega,by go_num,λj hj=>?_,p⟩,by simp[intOf];omega⟩;by_cases J:j=k
       ·rw[J,q.out,Z.out]
       ·exact B j (by omega)
     ·have a2:k=8:=by omega
      have T:=HI (Q.out (by rw[<-a2];exact B));go_wp2;go_ret;exact⟨by rw[T.out];rfl,D.trans (X.mono D.size)⟩
   ·refine (q0u S.log 0 (S.Qb-1) false (AH hl) _).mono ?_;rintro e U ⟨rfl,rfl⟩;have A:=HI (qq0 (S:=S) (AH (by omega)));go_wp2;go_ret;exact⟨by rw[A.out];rfl,D⟩
  ·refine (q0u S.Qb 32 2048 false (AH H) _).mono ?_;rintro e U ⟨rfl,rfl⟩;have A:=HI (qq0 (S:=S) (AH (by omega)));go_wp2;go_ret;exact⟨by rw[A.out];rfl,D⟩
 ·refine (q0u S.gen 1 1099511627775 false (AH hg) _).mono ?_;rintro e U ⟨rfl,rfl⟩;have A:=HI (qq0 (S:=S) (AH (by omega)));go_wp2;go_ret;exact⟨by rw[A.out];rfl,D⟩
