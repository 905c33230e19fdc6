/- Superblocks: the code's mayVol, named and May -/
import Derived.Test.YtnnbaihfboacoaaGreatDoorEr9
namespace Go.Proofs.YtnnbaihfboacoaaGreatDoor
open Go Go.RowKit Go.Proofs
set_option maxHeartbeats 4000000
set_option maxRecDepth 100000
def Vl.ok (v:Vl)(n:Int):Bool:=Dn v.name&&(decide (0<=v.root/\v.root<=n-1)&&decide (2<=v.next/\v.next<=2147483647))
def Ve (l:List Vl)(s:ByteArray):Bool:=l.any λu=>u.name.toList==s.toList
def Sp.ok1 (S:Sp)(i:Nat):Bool:=(S.at_ i).same Vl.zero||((S.at_ i).ok S.Qb&&!Ve (S.Jk.take i) (S.at_ i).name)
def Sp.hd (S:Sp):Bool:=decide (1<=S.gen/\S.gen<=1099511627775/\32<=S.Qb/\S.Qb<=2048/\0<=S.log/\S.log<=S.Qb-1)
def Sp.may (S:Sp):Bool:=S.hd&&(List.range 8).all S.ok1
def Sp.fine (S:Sp):Prop:=∀k,k<8->(S.at_ k).name.size<=maxLen
theorem qvj {S:Sp}{j:Nat}(b:j<8)(h:S.ok1 j=false):S.may=false:=by
 have:(List.range 8).all S.ok1=false:=by
  rw[List.all_eq_false];exact⟨j,List.mem_range.2 b,by rw[h];simp⟩
 unfold Sp.may;rw[this,Bool.and_false]
theorem qiy {S:Sp}(h0:S.hd=true)(h:∀j,j<8->S.ok1 j=true):S.may=true:=by
 have:(List.range 8).all S.ok1=true:=by
  rw[List.all_eq_true];exact λj b=>h j (List.mem_range.1 b)
 unfold Sp.may;rw[this,h0];rfl
theorem qrm {S:Sp}(h:S.hd=false):S.may=false:=by unfold Sp.may;rw[h,Bool.false_and]
theorem q6f (v:Vl)(n:Int)(h1:32<=n)(h2:n<=2048)(r:Bool)(y:v.ok n=r)(hm:v.name.size<=maxLen)(w:World) :
  Calls Tryz.prog 89 #[.agg #[.string v.name,.bool v.ro,.int .i64 v.root,.int .i64 v.next],.int .i64 n] w λe A=>e=.returned (.bool r)/\Below w.1.size w A:=by
 subst y;obtain⟨a,m⟩:∃a,Dn v.name=a:=⟨_,rfl⟩;obtain⟨b,p⟩:∃b,decide (0<=v.root/\v.root<=n-1)=b:=⟨_,rfl⟩;obtain⟨c,u⟩:∃c,decide (2<=v.next/\v.next<=2147483647)=c:=⟨_,rfl⟩;have d:=Lib.hid (show v.ok n=(a&&(b&&c)) by unfold Vl.ok;rw[m,p,u]);go_enter Tryz.func89,Tryz.ntmps89
 cases a
 ·go_wp2_with (first
   |(go_at_call 128;refine (q8b v.name false m _ hm).mono ?_;rintro e f ⟨rfl,rfl⟩)
   |fail)
  go_ret;exact⟨by rw[d.out];rfl,Qm⟩
 ·cases b
  ·go_wp2_with (first
    |(go_at_call 128;refine (q8b v.name true m _ hm).mono ?_;rintro e f ⟨rfl,rfl⟩)
    |(go_at_call 88;refine (P7 v.root 0 (n-1) false p _).mono ?_;rintro e f ⟨rfl,rfl⟩)
    |fail)
   go_ret;exact⟨by rw[d.out];rfl,Qm⟩
  ·go_wp2_with (first
    |(go_at_call 128;refine (q8b v.name true m _ hm).mono ?_;rintro e f ⟨rfl,rfl⟩)
    |fail)
   refine (P7 v.root 0 (n-1) true p _).mono ?_;rintro e f ⟨rfl,rfl⟩;go_wp2_with fail
   refine (P7 v.next 2 2147483647 c u _).mono ?_;rintro e f ⟨rfl,rfl⟩;go_wp2;go_ret;exact⟨by rw[d.out];rfl,Qm⟩
def Dc (l:List Vl)(j:Nat):Vl:=l.getD j Vl.zero
theorem qev {l:List Vl}{j:Nat}(h:j<l.length):l[j]?=some (Dc l j):=by simp[Dc,List.getD,h]
def F5 (w:World)(A:Option Addr)(n c:Nat)(l:List Vl):Prop:=Jf w 4 A n c (l.map Vl.vs)
theorem F5.len {w:World}{A:Option Addr}{n c:Nat}{l:List Vl}(h:F5 w A n c l):l.length=n:=by simpa using Jf.len h
theorem F5.cell {w:World}{A:Option Addr}{n c:Nat}{l:List Vl}(h:F5 w A n c l){j:Nat}(hj:j<n):∃g o,A=some ⟨g,o,none⟩/\g<w.1.size/\w.cell? ⟨g,o+j*4,none⟩=some (.string (Dc l j).name)/\w.cell? ⟨g,o+j*4+1,none⟩=some (.bool (Dc l j).ro)/\
  w.cell? ⟨g,o+j*4+2,none⟩=some (.int .i64 (Dc l j).root)/\w.cell? ⟨g,o+j*4+3,none⟩=some (.int .i64 (Dc l j).next):=by
 have e:=h.len;obtain⟨g,o,rfl,d,_,b⟩:=h.2.2.2 j (Dc l j).vs (by rw[List.getElem?_map,qev (by omega)];rfl);exact⟨g,o,rfl,d,b 0 _ rfl,b 1 _ rfl,b 2 _ rfl,b 3 _ rfl⟩
theorem qrn {l:List Vl}{s:ByteArray}{j:Nat}(b:j<l.length)(h:((Dc l j).name.toList==s.toList)=true):Ve l s=true:=by
 unfold Ve;rw[List.any_eq_true];exact⟨_,List.mem_of_getElem? (qev b),h⟩
theorem qul {l:List Vl}{s:ByteArray}(h:∀j,j<l.length->((Dc l j).name.toList==s.toList)=false):Ve l s=false:=by
 unfold Ve;rw[List.any_eq_false];intro u d;obtain⟨j,b,rfl⟩:=List.getElem_of_mem d;have:=h j b;have e:=qev b;rw[List.getElem?_eq_getElem b] at e;injection e with e;rw[<-e] at this;rw[this];simp
theorem qda (l:List Vl)(s:ByteArray)(r:Bool)(E:Ve l s=r)(A:Option Addr)(n c:Nat)(w:World)(h:F5 w A n c l)(_:n<=100000) :
  Calls Tryz.prog 90 #[.slice A n c,.string s] w λe O=>e=.returned (.bool r)/\Below w.1.size w O:=by
 subst E;have b:=Lib.hid h.len;have J:=Jf.cap h;have p:=Jf.max h;unfold maxLen at p;go_enter Tryz.func90,Tryz.ntmps90
 go_wp2_with fail
 go_loopw [9] (λi wr=>∃j:Nat,j<=n/\i=.int .i64 (j:Int)/\(∀q,q<j->((Dc l q).name.toList==s.toList)=false)/\Below w.1.size w wr) (λi _=>n-(intOf i).toNat)
 case atStart=>exact⟨0,Nat.zero_le _,rfl,λq B=>by omega,Below.refl _ _⟩
 case round=>
  obtain⟨j,R,rfl,d,f⟩:=hrel;by_cases m:j<n
  ·have E:F5 wr A n c l:=Jf.below h f;obtain⟨g,o,I,Q,c0,c1,c2,c3⟩:=E.cell m;subst I;obtain⟨x,F⟩:∃x,Dc l j=x:=⟨_,rfl⟩;rw[F] at c0 c1 c2 c3;have G:=Lib.hid F;clear F;have K:(0:Int)<=(j:Int):=by omega
   have H:Below wr.1.size wr (wr.alloc (.cells #[.string x.name,.bool x.ro,.int .i64 x.root,.int .i64 x.next] 95)):=Qm
   cases B:x.name.toList==s.toList
   ·go_wp2;refine⟨⟨j+1,by omega,by go_num,λq M=>?_,f.trans (H.mono f.size)⟩,by simp[intOf];omega⟩;by_cases D:q=j
    ·rw[D,G.out];exact B
    ·exact d q (by omega)
   ·go_wp2;go_ret;exact⟨by rw[qrn (j:=j) (by rw[b.out];exact m) (by rw[G.out];exact B)];rfl,f.trans (H.mono f.size)⟩
  ·have u:j=n:=by omega
   have y:=Lib.hid (qul (l:=l) (s:=s) (by rw[b.out,<-u];exact d));go_wp2;go_ret;exact⟨by rw[y.out];rfl,f⟩
def Aq (s:ByteArray):List UInt8:=s.data.toList++List.replicate (10-s.size) 0
def Xr (v:Vl):List UInt8:=Zc (v.name.size:Int) 1++(Aq v.name++(Zc (Nz v.ro) 1++(Zc v.root 2++Zc v.next 4)))
def Zz (S:Sp)(k:Nat):List UInt8:=Zc S.Qb 2++(Zc S.log 2++(S.Jk.take k).flatMap Xr)
theorem q9d (s:ByteArray)(h:s.size<=10):(Aq s).length=10:=by unfold Aq;simp;omega
theorem qum (v:Vl)(h:v.name.size<=10):(Xr v).length=18:=by unfold Xr;simp[q9d _ h,Yl]
theorem qbd (S:Sp):Zz S 0=Zc S.Qb 2++Zc S.log 2:=by unfold Zz;simp
theorem qbe (S:Sp){k:Nat}(b:k<8):Zz S (k+1)=Zz S k++Xr (S.at_ k):=by
 unfold Zz;have h:=S.get b;have d:k<S.Jk.length:=by rw[S.len];exact b
 rw[List.getElem?_eq_getElem d] at h;rw[List.take_succ_eq_append_getElem d,List.flatMap_append,Option.some.inj h];simp
theorem Xa (S:Sp)(k:Nat)(b:k<=8)(h:∀j,j<8->(S.at_ j).name.size<=10):(Zz S k).length=4+18*k:=by
 induction k with
 |zero=>rw[qbd];simp[Yl]
 |succ k ih=>rw[qbe S (by omega),List.length_append,ih (by omega),qum _ (h k (by omega))];omega
theorem q8c (A:Option Addr)(k c:Nat)(l:List UInt8)(x n:Int)(w:World)(h:Sl w A k c l)(u:k<=17592186044416)(h1:1<=n)(h2:n<=8) :
  Calls Tryz.prog 126 #[.slice A k c,.int .i64 x,.int .i64 n] w λe m=>∃d b f,e=.returned (.slice d b f)/\Own m w.1.size 5 d b f (l++Zc x n.toNat)/\(b<=k+n.toNat/\k+n.toNat<=b)/\Below w.1.size w m:=by
 refine (q9l A k c l x n w h u).mono ?_;rw[qy7 l x n h1 h2];rintro e m ⟨d,b,f,rfl,own,p⟩;have:=own.len;rw[List.length_append,Yl,h.len] at this;exact⟨d,b,f,rfl,own,⟨by omega,by omega⟩,p⟩
section
variable {P:Program}{w:World}
theorem qh8 (u H ty e:TypeId)(g n:Nat)(l:List UInt8)(A:TypeId)(d:ByteArray)(G:P.underlying u=some (.slice e))(F:(P.info? e).map (·.size)=some 1)
  (E:w.1[g]?=some (.cells (l.map bv).toArray A (0,0))) (hn:l.length=n) (p:d.size<=n) :
  (Builtin.copy_ #[u,H] ty #[.slice (some ⟨g,0,none⟩) n n,.string d]).run P w=.ok (goInt d.size) (w.setRow g ((splice l 0 d.data.toList).map bv).toArray):=by
 have f:(d.data.toList.map bv).length=d.size:=by simp
 have m:=run_storeCells_at P g 0 A (d.data.toList.map bv) 0 (l.map bv).toArray w E (by rw[f];simp;omega) (qf0 _);have hm:Nat.min d.size n=d.size:=Nat.min_eq_left p;have I:(Array.map (λb:UInt8=>Value.int .u8 (b.toNat:Int)) (d.extract 0 d.size).data).toList=d.data.toList.map bv:=by
  have:d.extract 0 d.size=d:=by ext1;simp
  rw[this];simp[bv]
 have B:((l.map bv).toArray.toList.take (0+0)++d.data.toList.map bv++(l.map bv).toArray.toList.drop (0+0+(d.data.toList.map bv).length))=(splice l 0 d.data.toList).map bv:=by
  unfold splice;simp
 rw[B] at m
 cases y:P.info? e with
 |none=>simp[y] at F
 |some i=>
  simp only[Builtin.copy_,Builtin.lenOf,Builtin.firstCells,sizeOf,typeInfo];simp only[List.getElem?_toArray,List.getElem?_cons_zero,List.getElem?_cons_succ,Sem.run_bind];simp[run_underlying G,y,hm];have D:List.take d.size (List.map (λb:UInt8=>Value.int .u8 (b.toNat:Int)) d.data.toList)=d.data.toList.map bv:=by
   rw[List.take_of_length_le (by simp)];rfl
  rw[D,m];rfl
theorem qiz {B:Array Oper}{o:Oper}{a:Act}{K:Act->World->Prop}{Q:Exit->Act->World->Prop}{E:Prop}(y:o.guard=none)(d s:Operand)(u H e:TypeId)
  (O:o.op=.call { callee:=.builtin .copy,args:=#[d,s],argTypes:=#[u,H] }) (T:P.underlying u=some (.slice e)) (R:(P.info? e).map (·.size)=some 1)
  (base g n:Nat) (l:List UInt8) (p:TypeId) (f:Own w base p (some ⟨g,0,none⟩) n n l) (b:ByteArray) (hd:a.eval d=.slice (some ⟨g,0,none⟩) n n) (U:a.eval s=.string b) (A:b.size<=n)
  (J:∀D,Own D base p (some ⟨g,0,none⟩) n n (splice l 0 b.data.toList)->Below g w D->K (a.put o.dst (goInt b.size)) D):if Region.wanted o (yielded B a.tmps)=true then Oper.wp P o a w K Q else E:=by
 rw[if_pos (by simp[Region.wanted,y])];obtain⟨M,F,hm⟩:=f.whole;have G:=f.len;have m:=qh8 (P:=P) u H o.type e g n l p b T R F G A;have h2:Own (w.setRow g ((splice l 0 b.data.toList).map bv).toArray) base p (some ⟨g,0,none⟩) n n (splice l 0 b.data.toList):=
  Own.of_whole M (setRow_heap w g _ _ p _ F) (by rw[length_splice _ _ _ (by simp;omega),G]) hm
 have I:Below g w (w.setRow g ((splice l 0 b.data.toList).map bv).toArray):=below_setRow (Below.refl _ _) (Nat.le_refl _) _;unfold Oper.wp execOp;simp only[O,resolve,invoke,builtin,Sem.run_bind,Sem.run_pure,Result.andThen_ok,List.map_toArray,List.map_cons,List.map_nil,hd,U,m];exact J _ h2 I
theorem qbr {t e:TypeId}(T:Y0 P t e){I:Array Oper}{o:Oper}{a:Act}{K:Act->World->Prop}{Q:Exit->Act->World->Prop}{E:Prop}(F:o.guard=none)(s x:Operand)
  (M:o.op=.call { callee:=.builtin .append,args:=#[s,x],argTypes:=#[t,t] })
  (base:Nat) (A:Option Addr) (n c:Nat) (l:List UInt8) (R:a.eval s=.slice A n c) (f:Own w base e A n c l)
  (B:Option Addr) (m d:Nat) (H:List UInt8) (U:a.eval x=.slice B m d) (O:Sl w B m d H) (G:n+m<=140737488355328) (b:base<=w.1.size)
  (h:∀y D u,Own u base e y (n+m) D (l++H)->Below base w u->K (a.put o.dst (.slice y (n+m) D)) u) :
  if Region.wanted o (yielded I a.tmps)=true then Oper.wp P o a w K Q else E:=by
 rw[if_pos (by simp[Region.wanted,F])];obtain⟨y,D,u,p,h2,J,_⟩:=q6g (P:=P) w T o.type base A n c l f B m d H O G b;unfold Oper.wp execOp;simp only[M,resolve,invoke,builtin,Sem.run_bind,Sem.run_pure,Result.andThen_ok,List.map_toArray,List.map_cons,List.map_nil,R,U,p];exact h y D u h2 J
end
theorem qx5 (b:Nat)(w:World):(Instr.sliceAt 255 (.pointer (some ⟨b,0,none⟩)) none none none).run Tryz.prog w=.ok (.slice (some ⟨b,0,none⟩) 10 10) w:=by
 have d:Tryz.prog.arrayLen 255=10:=by kernel_rfl
 have e:(sizeOf (Tryz.prog.elem 255)).run Tryz.prog w=.ok 1 w:=by kernel_rfl
 rw[run_sliceAt_array_all w 255 _ (by kernel_rfl),e,d];simp[slicedAt,Result.andThen,Addr.add_mid]
theorem qn6 (s:ByteArray)(_:s.size<=10):splice (List.replicate 10 0) 0 s.data.toList=Aq s:=by
 have e:splice (List.replicate 10 (0:UInt8)) 0 s.data.toList=s.data.toList++(List.replicate 10 (0:UInt8)).drop s.data.toList.length:=by unfold splice;rw[List.take_zero,List.nil_append,Nat.zero_add]
 rw[e,List.drop_replicate];rfl
theorem qn7 (v:Vl)(hv:v.name.size<=10)(A:Option Addr)(n c:Nat)(l:List UInt8)(w:World)(hs:Sl w A n c l)(hn:n<=100000) :
  Calls Tryz.prog 160 #[.slice A n c,.agg #[.string v.name,.bool v.ro,.int .i64 v.root,.int .i64 v.next]] w λe b=>
   ∃A' n' c',e=.returned (.slice A' n' c')/\Own b w.1.size 5 A' n' c' (l++Xr v)/\n'=n+18/\Below w.1.size w b:=by
 have b7:=Lib.hid hs.len;go_enter Tryz.func160,Tryz.ntmps160
 go_wp2_with fail
 generalize H:w.alloc (.cells #[.string v.name,.bool v.ro,.int .i64 v.root,.int .i64 v.next] 95)=m;have V1:VB m w.1.size v:=by rw[<-H];exact VB.new w v _
 have b1:Below w.1.size w m:=by rw[<-H];exact Qm
 have z1:m.1.size=w.1.size+1:=by rw[<-H];simp
 rw[<-z1];clear H;have X:Own (m.alloc (.cells ((List.replicate 10 (0:UInt8)).map bv).toArray 255)) m.1.size 255 (some ⟨m.1.size,0,none⟩) 10 10 (List.replicate 10 0):=
  Own.of_whole (Nat.le_refl _) (heap_alloc_new m _) (by simp) (by unfold maxLen;omega)
 have Y:Below m.1.size m (m.alloc (.cells ((List.replicate 10 (0:UInt8)).map bv).toArray 255)):=Qm;rw[show ((List.replicate 10 (0:UInt8)).map bv).toArray=#[.int .u8 0,.int .u8 0,.int .u8 0,.int .u8 0,.int .u8 0,.int .u8 0,.int .u8 0,.int .u8 0,.int .u8 0,.int .u8 0] from rfl] at X Y;generalize m.alloc (.cells #[.int .u8 0,.int .u8 0,.int .u8 0,.int .u8 0,.int .u8 0,.int .u8 0,.int .u8 0,.int .u8 0,.int .u8 0,.int .u8 0] 255)=I at X Y ⊢;have V2:=V1.below Y V1.lt;have z2:m.1.size<=I.1.size:=Y.size;have K:m.1.size<I.1.size:=(X.block _ rfl).2;have B2:Below w.1.size w I:=b1.trans (Y.mono (by omega));obtain⟨u,a8⟩:∃u,m.1.size=u:=⟨_,rfl⟩;have b6:=λb=>qx5 u b
 rw[a8] at X K ⊢;have U:w.1.size<u:=by omega
 have q2:=V2.c0;obtain⟨ps,W⟩:∃ps,splice (List.replicate 10 (0:UInt8)) 0 v.name.data.toList=ps:=⟨_,rfl⟩;have M:=Lib.hid (W.symm.trans (qn6 v.name hv));have J:∀b:World,Below u I b->b.cell? ⟨w.1.size,0,none⟩=some (.string v.name)/\Below u I b:=λb hb=>⟨(hb.cell (p:=⟨w.1.size,0,none⟩) U).trans q2,hb⟩
 have R:Below u I I.drew:=(Below.refl _ _).drew;go_region_held3 (λb=>b.cell? ⟨w.1.size,0,none⟩=some (.string v.name)/\Below u I b)
  (first|assumption|exact J _ R|exact J _ F)
  (first
   |(refine qiz rfl (.tmp 6) (.tmp 8) 31 9 5 rfl Tryz.underlying31 (by kernel_rfl) u u 10 (List.replicate 10 0) 255 (by first|exact X|exact X.drew) v.name rfl rfl hv ?_;intro d f T;rw[W] at f;have F:Below u I d:=(by first|exact R.trans T|exact T))
   |fail)
 have Z:Below w.1.size w d:=B2.trans (F.mono (by omega));have V3:=V2.below F U;have b0:=hs.below Z;have z3:=(f.block _ rfl).2;rw[M.out] at f;clear J R X hs q2 V2 V1 b1 Y B2 F T W;go_wp2_with fail
 have q3:=V3.c0;have J:∀b:World,Below d.1.size d b->b.cell? ⟨w.1.size,0,none⟩=some (.string v.name)/\Below d.1.size d b:=λb hb=>⟨(hb.cell (p:=⟨w.1.size,0,none⟩) V3.lt).trans q3,hb⟩
 have R:Below d.1.size d d.drew:=(Below.refl _ _).drew;have z4:d.1.size<=d.drew.1.size:=Nat.le_refl _;have p1:(1:Int)<=1:=by omega
 have p2:(1:Int)<=8:=by omega
 have p3:n<=17592186044416:=by omega
 have B:=f.sl;go_region_held3 (λb=>b.cell? ⟨w.1.size,0,none⟩=some (.string v.name)/\Below d.1.size d b)
  (first|assumption|exact J _ R|exact J _ y|exact J _ G)
  (first
   |((refine qbr Gy rfl (.tmp 14) (.tmp 15) rfl d.1.size A5 n5 c5 _ rfl O (some ⟨u,0,none⟩) 10 10 (Aq v.name) rfl (B.below y) p5 y.size ?_);intro A6 c6 w6 E a2;have G:Below d.1.size d w6:=y.trans a2)
   |(go_at_call 126;refine (q8c A n c _ (v.name.size:Int) 1 _ b0.drew p3 p1 p2).mono ?_;rintro e w5 ⟨A5,n5,c5,rfl,D,b8,a1⟩;have O:Own w5 d.1.size 5 A5 n5 c5 _:=D;have y:Below d.1.size d w5:=R.trans (a1.mono z4);have p5:n5+10<=140737488355328:=by omega)
   |fail)
 all_goals
  have V6:=V3.below G V3.lt;have B6:=Z.trans (G.mono Z.size);have E:=E.less Z.size;clear J R O D a1 a2 y G f B b0 V3 Z b6 p5 z4 M z1 a8 K U z2 z3 q3;have q6:=V6.c1;go_wp2_with fail
  refine (qn4 v.ro _).mono ?_;rintro e w7 ⟨rfl,rfl⟩;go_wp2_with fail
  refine (q8c A6 (n5+10) c6 _ (Nz v.ro) 1 _ E.sl (by omega) (by omega) (by omega)).mono ?_;rintro e w7 ⟨A7,n7,c7,rfl,b3,b9,a6⟩;have V7:=V6.below a6 V6.lt;have B7:=B6.trans (a6.mono B6.size);have q7:=V7.c2;clear q6;go_wp2_with fail
  refine (q8c A7 n7 c7 _ v.root 2 _ b3.sl (by omega) (by omega) (by omega)).mono ?_;rintro e w8 ⟨A8,n8,c8,rfl,b4,d0,a7⟩;have V8:=V7.below a7 V7.lt;have B8:=B7.trans (a7.mono B7.size);have q8:=V8.c3;clear q7;go_wp2_with fail
  refine (q8c A8 n8 c8 _ v.next 4 _ b4.sl (by omega) (by omega) (by omega)).mono ?_;rintro e w9 ⟨A9,n9,c9,rfl,Q,d1,b5⟩;have B9:=B8.trans (b5.mono B8.size);go_wp2;go_ret;refine⟨A9,n9,c9,rfl,?_,by omega,B9⟩;have e9:l++Zc (v.name.size:Int) (1:Int).toNat++Aq v.name++Zc (Nz v.ro) (1:Int).toNat++Zc v.root (2:Int).toNat++Zc v.next (4:Int).toNat=l++Xr v:=by
   unfold Xr;simp only[List.append_assoc];rfl
  rw[e9] at Q;exact Q.less B8.size
theorem qyc (b:BinOp)(x y:Operand)(xs d:Array Value)(w:World):(eqGuard b 95 x y (.agg xs) (.agg d)).run Tryz.prog w=.ok () w:=
 run_eqGuard_agg w b 95 x y xs d (by kernel_rfl)
theorem qyd (x:Vl)(r:Bool)(h:x.same Vl.zero=r)(w:World):(binOp .neq 95 (.agg #[.string x.name,.bool x.ro,.int .i64 x.root,.int .i64 x.next]) (.agg #[.string ⟨#[]⟩,.bool false,.int .i64 0,.int .i64 0])).run Tryz.prog w=.ok (.bool (!r)) w:=qy9 x Vl.zero r h w
theorem SB.Qa3 {w:World}{b:Nat}{S:Sp}(H:SB w b S){k:Nat}(hk:k<=8):F5 w (some ⟨b,3,none⟩) k 8 (S.Jk.take k):=by
 have:=H.Vs.take hk;unfold F5;rwa [List.map_take]
theorem Qcf (b k:Nat)(f:k<=8)(w:World):(Instr.sliceAt 96 (.pointer (some ⟨b,3,none⟩)) none (some (.int .i64 (k:Int))) none).run Tryz.prog w=.ok (.slice (some ⟨b,3,none⟩) k 8) w:=by
 have d:Tryz.prog.arrayLen 96=8:=by kernel_rfl
 have e:(sizeOf (Tryz.prog.elem 96)).run Tryz.prog w=.ok 4 w:=by kernel_rfl
 rw[run_sliceAt_array_h w 96 _ (by kernel_rfl) .i64 _ (by omega) (by rw[d];omega),e,d];simp[slicedAt,Result.andThen,Addr.add_mid]
theorem ql6 (S:Sp)(r:Bool)(hr:S.may=r)(hf:S.fine)(w:World) :
  Calls Tryz.prog 52 #[.agg S.vs.toArray] w λe w'=>e=.returned (.bool r)/\Below w.1.size w w':=by
 subst hr;have H:=SB.new w S 98;have B:Below w.1.size w (w.alloc (.cells S.vs.toArray 98)):=Qm;have q0:=H.c0;have q1:=H.c1;have q2:=H.c2;go_enter Tryz.func52,Tryz.ntmps52
 go_wp2_with fail
 generalize w.alloc (.cells S.vs.toArray 98)=w1 at H B q0 q1 q2 ⊢;by_cases hg:1<=S.gen/\S.gen<=1099511627775
 ·refine (P7 S.gen 1 1099511627775 true (decide_eq_true hg) _).mono ?_;rintro e T ⟨rfl,rfl⟩;go_wp2_with fail
  by_cases G:32<=S.Qb/\S.Qb<=2048
  ·refine (P7 S.Qb 32 2048 true (decide_eq_true G) _).mono ?_;rintro e T ⟨rfl,rfl⟩;go_wp2_with fail
   by_cases hl:0<=S.log/\S.log<=S.Qb-1
   ·refine (P7 S.log 0 (S.Qb-1) true (decide_eq_true hl) _).mono ?_;rintro e T ⟨rfl,rfl⟩;have a1:S.hd=true:=decide_eq_true (by omega);have O:=Lib.hid (λh=>qiy (S:=S) a1 h);go_wp2_with (first
     |(refine qn3 rfl (.tmp 24) rfl w.1.size rfl S H ?_)
     |fail)
    go_loopw [26] (λi wr=>∃k:Nat,k<=8/\i=.int .i64 (k:Int)/\(∀j<k,S.ok1 j=true)/\Below w1.1.size w1 wr) (λi _=>8-(intOf i).toNat)
    case atStart=>exact⟨0,by omega,rfl,λj hj=>by omega,Below.refl _ _⟩
    case round=>
     obtain⟨k,hk,rfl,A,X⟩:=hrel;by_cases D:k<8
     ·have Q:=qy8 S D;have a7:(0:Int)<=(k:Int):=by omega
      obtain⟨x,hx⟩:∃x,S.at_ k=x:=⟨_,rfl⟩;have F:=hf k D;rw[hx] at Q F;have f:=Lib.hid (show S.ok1 k=(x.same Vl.zero||(x.ok S.Qb&&!Ve (S.Jk.take k) x.name)) by unfold Sp.ok1;rw[hx]);clear hx;have Hr:=H.below X H.lt;go_wp2_with fail
      have bx:Below wr.1.size wr (wr.alloc (.cells #[.string x.name,.bool x.ro,.int .i64 x.root,.int .i64 x.next] 95)):=Qm;have M:(wr.alloc (.cells #[.string x.name,.bool x.ro,.int .i64 x.root,.int .i64 x.next] 95)).1[wr.1.size]?=some (.cells #[.string x.name,.bool x.ro,.int .i64 x.root,.int .i64 x.next] 95 (0,0)):=heap_alloc_new wr _;have W:wr.1.size<(wr.alloc (.cells #[.string x.name,.bool x.ro,.int .i64 x.root,.int .i64 x.next] 95)).1.size:=by simp
      generalize wr.alloc (.cells #[.string x.name,.bool x.ro,.int .i64 x.root,.int .i64 x.next] 95)=U at bx M W ⊢;have K:=Hr.below bx Hr.lt;have q0:∀u:Grown U,u.to.cell? ⟨wr.1.size,0,none⟩=some (.string x.name):=Grown.cell (by rw[cell_of_row _ _ _ _ _ _ M];rfl) W;have q1:∀u:Grown U,u.to.cell? ⟨wr.1.size,1,none⟩=some (.bool x.ro):=Grown.cell (by rw[cell_of_row _ _ _ _ _ _ M];rfl) W;have q2:∀u:Grown U,u.to.cell? ⟨wr.1.size,2,none⟩=some (.int .i64 x.root):=Grown.cell (by rw[cell_of_row _ _ _ _ _ _ M];rfl) W;have q3:∀u:Grown U,u.to.cell? ⟨wr.1.size,3,none⟩=some (.int .i64 x.next):=Grown.cell (by rw[cell_of_row _ _ _ _ _ _ M];rfl) W;have q4:∀u:Grown U,u.to.cell? ⟨w.1.size,1,none⟩=some (.int .i64 S.Qb):=Grown.cell K.c1 K.lt;have b:=X.trans (bx.mono X.size);have hG:=qyc;have a8:=Qcf w.1.size k (by omega);clear M Q;obtain⟨z,Y⟩:∃z,x.same Vl.zero=z:=⟨_,rfl⟩;have a6:=qyd x z Y
      cases z
      ·obtain⟨m,p⟩:∃m,x.ok S.Qb=m:=⟨_,rfl⟩
       cases m
       ·have J:=Lib.hid (qvj (S:=S) D (by rw[f.out,Y,p];rfl));refine Yc (by kernel_rfl) (by kernel_rfl) ?_;repeat (go_big_quiet_step (first
         |(go_at_call 89;exact Calls.grown (q6f x S.Qb G.1 G.2 false p F _))
         |fail))
        refine wpQuiet_nil ?_;rintro _ ⟨u,rfl⟩;have d:=b.trans (u.ok.mono b.size);go_wp2;go_ret;exact⟨by rw[J.out];rfl,B.trans (d.mono B.size)⟩
       ·obtain⟨nm,E⟩:∃nm,Ve (S.Jk.take k) x.name=nm:=⟨_,rfl⟩
        cases nm
        ·have Z:=Lib.hid (show (x.same Vl.zero||(x.ok S.Qb&&!Ve (S.Jk.take k) x.name))=true by rw[p,E];simp);refine Yc (by kernel_rfl) (by kernel_rfl) ?_;repeat (go_big_quiet_step (first
          |(go_at_call 89;exact Calls.grown (q6f x S.Qb G.1 G.2 true p F _))
          |(go_at_call 90;exact Calls.grown (qda (S.Jk.take k) x.name false E _ k 8 _ ((K.below (Grown.ok _) K.lt).Qa3 (by omega)) (by omega)))
          |fail))
         refine wpQuiet_nil ?_;rintro _ ⟨u,rfl⟩;have d:=b.trans (u.ok.mono b.size);go_wp2;refine⟨⟨k+1,by omega,by go_num,λj hj=>?_,d⟩,by simp[intOf];omega⟩;by_cases I:j=k
         ·rw[I,f.out,Z.out]
         ·exact A j (by omega)
        ·have J:=Lib.hid (qvj (S:=S) D (by rw[f.out,Y,p,E];rfl));refine Yc (by kernel_rfl) (by kernel_rfl) ?_;repeat (go_big_quiet_step (first
          |(go_at_call 89;exact Calls.grown (q6f x S.Qb G.1 G.2 true p F _))
          |(go_at_call 90;exact Calls.grown (qda (S.Jk.take k) x.name true E _ k 8 _ ((K.below (Grown.ok _) K.lt).Qa3 (by omega)) (by omega)))
          |fail))
         refine wpQuiet_nil ?_;rintro _ ⟨u,rfl⟩;have d:=b.trans (u.ok.mono b.size);go_wp2;go_ret;exact⟨by rw[J.out];rfl,B.trans (d.mono B.size)⟩
      ·have Z:=Lib.hid (show (x.same Vl.zero||(x.ok S.Qb&&!Ve (S.Jk.take k) x.name))=true by rw[Y];rfl);refine Yc (by kernel_rfl) (by kernel_rfl) ?_;repeat (go_big_quiet_step (first
        |fail))
       refine wpQuiet_nil ?_;rintro _ ⟨u,rfl⟩;have d:=b.trans (u.ok.mono b.size);go_wp2;refine⟨⟨k+1,by omega,by go_num,λj hj=>?_,d⟩,by simp[intOf];omega⟩;by_cases I:j=k
       ·rw[I,f.out,Z.out]
       ·exact A j (by omega)
     ·have a2:k=8:=by omega
      have R:=Lib.hid (O.out (by rw[<-a2];exact A));go_wp2;go_ret;exact⟨by rw[R.out];rfl,B.trans (X.mono B.size)⟩
   ·refine (P7 S.log 0 (S.Qb-1) false (decide_eq_false hl) _).mono ?_;rintro e T ⟨rfl,rfl⟩;have y:=Lib.hid (qrm (S:=S) (decide_eq_false (by omega)));go_wp2;go_ret;exact⟨by rw[y.out];rfl,B⟩
  ·refine (P7 S.Qb 32 2048 false (decide_eq_false G) _).mono ?_;rintro e T ⟨rfl,rfl⟩;have y:=Lib.hid (qrm (S:=S) (decide_eq_false (by omega)));go_wp2;go_ret;exact⟨by rw[y.out];rfl,B⟩
 ·refine (P7 S.gen 1 1099511627775 false (decide_eq_false hg) _).mono ?_;rintro e T ⟨rfl,rfl⟩;have y:=Lib.hid (qrm (S:=S) (decide_eq_false (by omega)));go_wp2;go_ret;exact⟨by rw[y.out];rfl,B⟩
