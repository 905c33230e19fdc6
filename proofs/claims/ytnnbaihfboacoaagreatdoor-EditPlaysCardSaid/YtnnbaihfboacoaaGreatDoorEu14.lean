/- Superblocks: the code's mayVol, named and May -/
import Derived.Test.YtnnbaihfboacoaaGreatDoorEu13
namespace Go.Proofs.YtnnbaihfboacoaaGreatDoor
open Go Go.RowKit Go.Proofs
set_option maxHeartbeats 4000000
set_option maxRecDepth 100000
def Vl.ok (v:Vl)(n:Int):Bool:=Dn v.name&&(decide (0<=v.root/\v.root<=n-1)&&decide (2<=v.next/\v.next<=2147483647))
def Ve (l:List Vl)(s:ByteArray):Bool:=l.any λu=>u.name.toList==s.toList
def Sp.ok1 (S:Sp)(i:Nat):Bool:=(S.at_ i).same Vl.zero||((S.at_ i).ok S.Qb&&!Ve (S.Jk.take i) (S.at_ i).name)
def Sp.hd (S:Sp):Bool:=decide (1<=S.gen/\S.gen<=1099511627775/\32<=S.Qb/\S.Qb<=2048/\0<=S.log/\S.log<=S.Qb-1)
def Sp.may (S:Sp):Bool:=S.hd&&(List.range 8).all S.ok1
def Sp.fine (S:Sp):Prop:=∀k,k<8->(S.at_ k).name.size<=maxLen
theorem qvj {S:Sp}{j:Nat}(b:j<8)(h:S.ok1 j=false):S.may=false:=by
 have:(List.range 8).all S.ok1=false:=by
  rw[List.all_eq_false];exact⟨j,List.mem_range.2 b,by rw[h];simp⟩
 unfold Sp.may;rw[this,Bool.and_false]
theorem qiy {S:Sp}(h0:S.hd=true)(h:∀j,j<8->S.ok1 j=true):S.may=true:=by
 have:(List.range 8).all S.ok1=true:=by
  rw[List.all_eq_true];exact λj b=>h j (List.mem_range.1 b)
 unfold Sp.may;rw[this,h0];rfl
theorem qrm {S:Sp}(h:S.hd=false):S.may=false:=by unfold Sp.may;rw[h,Bool.false_and]
theorem q6f (v:Vl)(n:Int)(h1:32<=n)(h2:n<=2048)(r:Bool)(y:v.ok n=r)(hm:v.name.size<=maxLen)(w:World) :
  Calls Tryz.prog 89 #[.agg #[.string v.name,.bool v.ro,.int .i64 v.root,.int .i64 v.next],.int .i64 n] w λe A=>e=.returned (.bool r)/\Below w.1.size w A:=by
 subst y;obtain⟨a,m⟩:∃a,Dn v.name=a:=⟨_,rfl⟩;obtain⟨b,p⟩:∃b,decide (0<=v.root/\v.root<=n-1)=b:=⟨_,rfl⟩;obtain⟨c,u⟩:∃c,decide (2<=v.next/\v.next<=2147483647)=c:=⟨_,rfl⟩;have d:=Lib.hid (show v.ok n=(a&&(b&&c)) by unfold Vl.ok;rw[m,p,u]);go_enter Tryz.func89,Tryz.ntmps89
 cases a
 ·go_wp2_with (first
   |(go_at_call 128;refine (q8b v.name false m _ hm).mono ?_;rintro e f ⟨rfl,rfl⟩)
   |fail)
  go_ret;exact⟨by rw[d.out];rfl,Qm⟩
 ·cases b
  ·go_wp2_with (first
    |(go_at_call 128;refine (q8b v.name true m _ hm).mono ?_;rintro e f ⟨rfl,rfl⟩)
    |(go_at_call 88;refine (P7 v.root 0 (n-1) false p _).mono ?_;rintro e f ⟨rfl,rfl⟩)
    |fail)
   go_ret;exact⟨by rw[d.out];rfl,Qm⟩
  ·go_wp2_with (first
    |(go_at_call 128;refine (q8b v.name true m _ hm).mono ?_;rintro e f ⟨rfl,rfl⟩)
    |fail)
   refine (P7 v.root 0 (n-1) true p _).mono ?_;rintro e f ⟨rfl,rfl⟩;go_wp2_with fail
   refine (P7 v.next 2 2147483647 c u _).mono ?_;rintro e f ⟨rfl,rfl⟩;go_wp2;go_ret;exact⟨by rw[d.out];rfl,Qm⟩
def Dc (l:List Vl)(j:Nat):Vl:=l.getD j Vl.zero
theorem qev {l:List Vl}{j:Nat}(h:j<l.length):l[j]?=some (Dc l j):=by simp[Dc,List.getD,h]
def F5 (w:World)(A:Option Addr)(n c:Nat)(l:List Vl):Prop:=Jf w 4 A n c (l.map Vl.vs)
theorem F5.len {w:World}{A:Option Addr}{n c:Nat}{l:List Vl}(h:F5 w A n c l):l.length=n:=by simpa using Jf.len h
theorem F5.cell {w:World}{A:Option Addr}{n c:Nat}{l:List Vl}(h:F5 w A n c l){j:Nat}(hj:j<n):∃g o,A=some ⟨g,o,none⟩/\g<w.1.size/\w.cell? ⟨g,o+j*4,none⟩=some (.string (Dc l j).name)/\w.cell? ⟨g,o+j*4+1,none⟩=some (.bool (Dc l j).ro)/\
  w.cell? ⟨g,o+j*4+2,none⟩=some (.int .i64 (Dc l j).root)/\w.cell? ⟨g,o+j*4+3,none⟩=some (.int .i64 (Dc l j).next):=by
 have e:=h.len;obtain⟨g,o,rfl,d,_,b⟩:=h.2.2.2 j (Dc l j).vs (by rw[List.getElem?_map,qev (by omega)];rfl);exact⟨g,o,rfl,d,b 0 _ rfl,b 1 _ rfl,b 2 _ rfl,b 3 _ rfl⟩
theorem qrn {l:List Vl}{s:ByteArray}{j:Nat}(b:j<l.length)(h:((Dc l j).name.toList==s.toList)=true):Ve l s=true:=by
 unfold Ve;rw[List.any_eq_true];exact⟨_,List.mem_of_getElem? (qev b),h⟩
theorem qul {l:List Vl}{s:ByteArray}(h:∀j,j<l.length->((Dc l j).name.toList==s.toList)=false):Ve l s=false:=by
 unfold Ve;rw[List.any_eq_false];intro u d;obtain⟨j,b,rfl⟩:=List.getElem_of_mem d;have:=h j b;have e:=qev b;rw[List.getElem?_eq_getElem b] at e;injection e with e;rw[<-e] at this;rw[this];simp
theorem qda (l:List Vl)(s:ByteArray)(r:Bool)(E:Ve l s=r)(A:Option Addr)(n c:Nat)(w:World)(h:F5 w A n c l)(_:n<=100000) :
  Calls Tryz.prog 90 #[.slice A n c,.string s] w λe O=>e=.returned (.bool r)/\Below w.1.size w O:=by
 subst E;have b:=Lib.hid h.len;have J:=Jf.cap h;have p:=Jf.max h;unfold maxLen at p;go_enter Tryz.func90,Tryz.ntmps90
 go_wp2_with fail
 go_loopw [9] (λi wr=>∃j:Nat,j<=n/\i=.int .i64 (j:Int)/\(∀q,q<j->((Dc l q).name.toList==s.toList)=false)/\Below w.1.size w wr) (λi _=>n-(intOf i).toNat)
 case atStart=>exact⟨0,Nat.zero_le _,rfl,λq B=>by omega,Below.refl _ _⟩
 case round=>
  obtain⟨j,R,rfl,d,f⟩:=hrel;by_cases m:j<n
  ·have E:F5 wr A n c l:=Jf.below h f;obtain⟨g,o,I,Q,c0,c1,c2,c3⟩:=E.cell m;subst I;obtain⟨x,F⟩:∃x,Dc l j=x:=⟨_,rfl⟩;rw[F] at c0 c1 c2 c3;have G:=Lib.hid F;clear F;have K:(0:Int)<=(j:Int):=by omega
   have H:Below wr.1.size wr (wr.alloc (.cells #[.string x.name,.bool x.ro,.int .i64 x.root,.int .i64 x.next] 95)):=Qm
   cases B:x.name.toList==s.toList
   ·go_wp2;refine⟨⟨j+1,by omega,by go_num,λq M=>?_,f.trans (H.mono f.size)⟩,by simp[intOf];omega⟩;by_cases D:q=j
    ·rw[D,G.out];exact B
    ·exact d q (by omega)
   ·go_wp2;go_ret;exact⟨by rw[qrn (j:=j) (by rw[b.out];exact m) (by rw[G.out];exact B)];rfl,f.trans (H.mono f.size)⟩
  ·have u:j=n:=by omega
   have y:=Lib.hid (qul (l:=l) (s:=s) (by rw[b.out,<-u];exact d));go_wp2;go_ret;exact⟨by rw[y.out];rfl,f⟩
def Aq (s:ByteArray):List UInt8:=s.data.toList++List.replicate (10-s.size) 0
def Xr (v:Vl):List UInt8:=Zc (v.name.size:Int) 1++(Aq v.name++(Zc (Nz v.ro) 1++(Zc v.root 2++Zc v.next 4)))
def Zz (S:Sp)(k:Nat):List UInt8:=Zc S.Qb 2++(Zc S.log 2++(S.Jk.take k).flatMap Xr)
theorem q9d (s:ByteArray)(h:s.size<=10):(Aq s).length=10:=by unfold Aq;simp;omega
theorem qum (v:Vl)(h:v.name.size<=10):(Xr v).length=18:=by unfold Xr;simp[q9d _ h,Yl]
theorem qbd (S:Sp):Zz S 0=Zc S.Qb 2++Zc S.log 2:=by unfold Zz;simp
theorem qbe (S:Sp){k:Nat}(b:k<8):Zz S (k+1)=Zz S k++Xr (S.at_ k):=by
 unfold Zz;have h:=S.get b;have d:k<S.Jk.length:=by rw[S.len];exact b
 rw[List.getElem?_eq_getElem d] at h;rw[List.take_succ_eq_append_getElem d,List.flatMap_append,Option.some.inj h];simp
theorem Xa (S:Sp)(k:Nat)(b:k<=8)(h:∀j,j<8->(S.at_ j).name.size<=10):(Zz S k).length=4+18*k:=by
 induction k with
 |zero=>rw[qbd];simp[Yl]
 |succ k ih=>rw[qbe S (by omega),List.length_append,ih (by omega),qum _ (h k (by omega))];omega
theorem q8c (A:Option Addr)(k c:Nat)(l:List UInt8)(x n:Int)(w:World)(h:Sl w A k c l)(u:k<=17592186044416)(h1:1<=n)(h2:n<=8) :
  Calls Tryz.prog 126 #[.slice A k c,.int .i64 x,.int .i64 n] w λe m=>∃d b f,e=.returned (.slice d b f)/\Own m w.1.size 5 d b f (l++Zc x n.toNat)/\(b<=k+n.toNat/\k+n.toNat<=b)/\Below w.1.size w m:=by
 refine (q9l A k c l x n w h u).mono ?_;rw[qy7 l x n h1 h2];rintro e m ⟨d,b,f,rfl,own,p⟩;have:=own.len;rw[List.length_append,Yl,h.len] at this;exact⟨d,b,f,rfl,own,⟨by omega,by omega⟩,p⟩
section
variable {P:Program}{w:World}
theorem qh8 (u H ty e:TypeId)(g n:Nat)(l:List UInt8)(A:TypeId)(d:ByteArray)(G:P.underlying u=some (.slice e))(F:(P.info? e).map (·.size)=some 1)
  (E:w.1[g]?=some (.cells (l.map bv).toArray A (0,0))) (hn:l.length=n) (p:d.size<=n) :
  (Builtin.copy_ #[u,H] ty #[.slice (some ⟨g,0,none⟩) n n,.string d]).run P w=.ok (goInt d.size) (w.setRow g ((splice l 0 d.data.toList).map bv).toArray):=by
 have f:(d.data.toList.map bv).length=d.size:=by simp
 have m:=run_storeCells_at P g 0 A (d.data.toList.map bv) 0 (l.map bv).toArray w E (by rw[f];simp;omega) (qf0 _);have hm:Nat.min d.size n=d.size:=Nat.min_eq_left p;have I:(Array.map (λb:UInt8=>Value.int .u8 (b.toNat:Int)) (d.extract 0 d.size).data).toList=d.data.toList.map bv:=by
  have:d.extract 0 d.size=d:=by ext1;simp
  rw[this];simp[bv]
 have B:((l.map bv).toArray.toList.take (0+0)++d.data.toList.map bv++(l.map bv).toArray.toList.drop (0+0+(d.data.toList.map bv).length))=(splice l 0 d.data.toList).map bv:=by
  unfold splice;simp
 rw[B] at m
 cases y:P.info? e with
 |none=>simp[y] at F
 |some i=>
  simp only[Builtin.copy_,Builtin.lenOf,Builtin.firstCells,sizeOf,typeInfo];simp only[List.getElem?_toArray,List.getElem?_cons_zero,List.getElem?_cons_succ,Sem.run_bind];simp[run_underlying G,y,hm];have D:List.take d.size (List.map (λb:UInt8=>Value.int .u8 (b.toNat:Int)) d.data.toList)=d.data.toList.map bv:=by
   rw[List.take_of_length_le (by simp)];rfl
  rw[D,m];rfl
theorem qiz {ops:Array Oper}{o:Oper}{a:Act}{K:Act->World->Prop}{Q:Exit->Act->World->Prop}{E:Prop}(y:o.guard=none)(d s:Operand)(u G e:TypeId)
  (M:o.op=.call { callee:=.builtin .copy,args:=#[d,s],argTypes:=#[u,G] }) (R:P.underlying u=some (.slice e)) (O:(P.info? e).map (·.size)=some 1)
  (base g n:Nat) (l:List UInt8) (p:TypeId) (f:Own w base p (some ⟨g,0,none⟩) n n l) (b:ByteArray) (hd:a.eval d=.slice (some ⟨g,0,none⟩) n n) (T:a.eval s=.string b) (A:b.size<=n)
  (I:∀B,Own B base p (some ⟨g,0,none⟩) n n (splice l 0 b.data.toList)->Below g w B->K (a.put o.dst (goInt b.size)) B):if Region.wanted o (yielded ops a.tmps)=true then Oper.wp P o a w K Q else E:=by
 rw[if_pos (by simp[Region.wanted,y])];obtain⟨J,D,hm⟩:=f.whole;have F:=f.len;have m:=qh8 (P:=P) u G o.type e g n l p b R O D F A;have h2:Own (w.setRow g ((splice l 0 b.data.toList).map bv).toArray) base p (some ⟨g,0,none⟩) n n (splice l 0 b.data.toList):=
  Own.of_whole J (setRow_heap w g _ _ p _ D) (by rw[length_splice _ _ _ (by simp;omega),F]) hm
 have H:Below g w (w.setRow g ((splice l 0 b.data.toList).map bv).toArray):=below_setRow (Below.refl _ _) (Nat.le_refl _) _;unfold Oper.wp execOp;simp only[M,resolve,invoke,builtin,Sem.run_bind,Sem.run_pure,Result.andThen_ok,List.map_toArray,List.map_cons,List.map_nil,hd,T,m];exact I _ h2 H
theorem qbr {t e:TypeId}(T:Y0 P t e){ops:Array Oper}{o:Oper}{a:Act}{K:Act->World->Prop}{Q:Exit->Act->World->Prop}{E:Prop}(F:o.guard=none)(s x:Operand)
  (J:o.op=.call { callee:=.builtin .append,args:=#[s,x],argTypes:=#[t,t] })
  (base:Nat) (A:Option Addr) (n c:Nat) (l:List UInt8) (O:a.eval s=.slice A n c) (f:Own w base e A n c l)
  (B:Option Addr) (m d:Nat) (H:List UInt8) (R:a.eval x=.slice B m d) (M:Sl w B m d H) (G:n+m<=140737488355328) (b:base<=w.1.size)
  (h:∀y D u,Own u base e y (n+m) D (l++H)->Below base w u->K (a.put o.dst (.slice y (n+m) D)) u) :
  if Region.wanted o (yielded ops a.tmps)=true then Oper.wp P o a w K Q else E:=by
 rw[if_pos (by simp[Region.wanted,F])];obtain⟨y,D,u,p,h2,I,_⟩:=q6g (P:=P) w T o.type base A n c l f B m d H M G b;unfold Oper.wp execOp;simp only[J,resolve,invoke,builtin,Sem.run_bind,Sem.run_pure,Result.andThen_ok,List.map_toArray,List.map_cons,List.map_nil,O,R,p];exact h y D u h2 I
end
theorem qx5 (b:Nat)(w:World):(Instr.sliceAt 255 (.pointer (some ⟨b,0,none⟩)) none none none).run Tryz.prog w=.ok (.slice (some ⟨b,0,none⟩) 10 10) w:=by
 have d:Tryz.prog.arrayLen 255=10:=by kernel_rfl
 have e:(sizeOf (Tryz.prog.elem 255)).run Tryz.prog w=.ok 1 w:=by kernel_rfl
 rw[run_sliceAt_array_all w 255 _ (by kernel_rfl),e,d];simp[slicedAt,Result.andThen,Addr.add_mid]
theorem qn6 (s:ByteArray)(_:s.size<=10):splice (List.replicate 10 0) 0 s.data.toList=Aq s:=by
 have e:splice (List.replicate 10 (0:UInt8)) 0 s.data.toList=s.data.toList++(List.replicate 10 (0:UInt8)).drop s.data.toList.length:=by unfold splice;rw[List.take_zero,List.nil_append,Nat.zero_add]
 rw[e,List.drop_replicate];rfl
theorem qn7 (v:Vl)(hv:v.name.size<=10)(A:Option Addr)(n c:Nat)(l:List UInt8)(w:World)(hs:Sl w A n c l)(hn:n<=100000) :
  Calls Tryz.prog 160 #[.slice A n c,.agg #[.string v.name,.bool v.ro,.int .i64 v.root,.int .i64 v.next]] w λe b=>
   ∃A' n' c',e=.returned (.slice A' n' c')/\Own b w.1.size 5 A' n' c' (l++Xr v)/\n'=n+18/\Below w.1.size w b:=by
 have b7:=Lib.hid hs.len;go_enter Tryz.func160,Tryz.ntmps160
 go_wp2_with fail
 generalize H:w.alloc (.cells #[.string v.name,.bool v.ro,.int .i64 v.root,.int .i64 v.next] 95)=m;have V1:VB m w.1.size v:=by rw[<-H];exact VB.new w v _
 have b1:Below w.1.size w m:=by rw[<-H];exact Qm
 have z1:m.1.size=w.1.size+1:=by rw[<-H];simp
 rw[<-z1];clear H;have X:Own (m.alloc (.cells ((List.replicate 10 (0:UInt8)).map bv).toArray 255)) m.1.size 255 (some ⟨m.1.size,0,none⟩) 10 10 (List.replicate 10 0):=
  Own.of_whole (Nat.le_refl _) (heap_alloc_new m _) (by simp) (by unfold maxLen;omega)
 have Y:Below m.1.size m (m.alloc (.cells ((List.replicate 10 (0:UInt8)).map bv).toArray 255)):=Qm;rw[show ((List.replicate 10 (0:UInt8)).map bv).toArray=#[.int .u8 0,.int .u8 0,.int .u8 0,.int .u8 0,.int .u8 0,.int .u8 0,.int .u8 0,.int .u8 0,.int .u8 0,.int .u8 0] from rfl] at X Y;generalize m.alloc (.cells #[.int .u8 0,.int .u8 0,.int .u8 0,.int .u8 0,.int .u8 0,.int .u8 0,.int .u8 0,.int .u8 0,.int .u8 0,.int .u8 0] 255)=I at X Y ⊢;have V2:=V1.below Y V1.lt;have z2:m.1.size<=I.1.size:=Y.size;have K:m.1.size<I.1.size:=(X.block _ rfl).2;have B2:Below w.1.size w I:=b1.trans (Y.mono (by omega));obtain⟨u,a8⟩:∃u,m.1.size=u:=⟨_,rfl⟩;have b6:=λb=>qx5 u b
 rw[a8] at X K ⊢;have U:w.1.size<u:=by omega
 have q2:=V2.c0;obtain⟨ps,W⟩:∃ps,splice (List.replicate 10 (0:UInt8)) 0 v.name.data.toList=ps:=⟨_,rfl⟩;have M:=Lib.hid (W.symm.trans (qn6 v.name hv));have J:∀b:World,Below u I b->b.cell? ⟨w.1.size,0,none⟩=some (.string v.name)/\Below u I b:=λb hb=>⟨(hb.cell (p:=⟨w.1.size,0,none⟩) U).trans q2,hb⟩
 have R:Below u I I.drew:=(Below.refl _ _).drew;go_region_held3 (λb=>b.cell? ⟨w.1.size,0,none⟩=some (.string v.name)/\Below u I b)
  (first|assumption|exact J _ R|exact J _ F)
  (first
   |(refine qiz rfl (.tmp 6) (.tmp 8) 31 9 5 rfl Tryz.underlying31 (by kernel_rfl) u u 10 (List.replicate 10 0) 255 (by first|exact X|exact X.drew) v.name rfl rfl hv ?_;intro d f T;rw[W] at f;have F:Below u I d:=(by first|exact R.trans T|exact T))
   |fail)
 have Z:Below w.1.size w d:=B2.trans (F.mono (by omega));have V3:=V2.below F U;have b0:=hs.below Z;have z3:=(f.block _ rfl).2;rw[M.out] at f;clear J R X hs q2 V2 V1 b1 Y B2 F T W;go_wp2_with fail
 have q3:=V3.c0;have J:∀b:World,Below d.1.size d b->b.cell? ⟨w.1.size,0,none⟩=some (.string v.name)/\Below d.1.size d b:=λb hb=>⟨(hb.cell (p:=⟨w.1.size,0,none⟩) V3.lt).trans q3,hb⟩
 have R:Below d.1.size d d.drew:=(Below.refl _ _).drew;have z4:d.1.size<=d.drew.1.size:=Nat.le_refl _;have p1:(1:Int)<=1:=by omega
 have p2:(1:Int)<=8:=by omega
 have p3:n<=17592186044416:=by omega
 have B:=f.sl;go_region_held3 (λb=>b.cell? ⟨w.1.size,0,none⟩=some (.string v.name)/\Below d.1.size d b)
  (first|assumption|exact J _ R|exact J _ y|exact J _ G)
  (first
   |((refine qbr Gy rfl (.tmp 14) (.tmp 15) rfl d.1.size A5 n5 c5 _ rfl O (some ⟨u,0,none⟩) 10 10 (Aq v.name) rfl (B.below y) p5 y.size ?_);intro A6 c6 w6 E a2;have G:Below d.1.size d w6:=y.trans a2)
   |(go_at_call 126;refine (q8c A n c _ (v.name.size:Int) 1 _ b0.drew p3 p1 p2).mono ?_;rintro e w5 ⟨A5,n5,c5,rfl,D,b8,a1⟩;have O:Own w5 d.1.size 5 A5 n5 c5 _:=D;have y:Below d.1.size d w5:=R.trans (a1.mono z4);have p5:n5+10<=140737488355328:=by omega)
   |fail)
 all_goals
  have V6:=V3.below G V3.lt;have B6:=Z.trans (G.mono Z.size);have E:=E.less Z.size;clear J R O D a1 a2 y G f B b0 V3 Z b6 p5 z4 M z1 a8 K U z2 z3 q3;have q6:=V6.c1;go_wp2_with fail
  refine (qn4 v.ro _).mono ?_;rintro e w7 ⟨rfl,rfl⟩;go_wp2_with fail
  refine (q8c A6 (n5+10) c6 _ (Nz v.ro) 1 _ E.sl (by omega) (by omega) (by omega)).mono ?_;rintro e w7 ⟨A7,n7,c7,rfl,b3,b9,a6⟩;have V7:=V6.below a6 V6.lt;have B7:=B6.trans (a6.mono B6.size);have q7:=V7.c2;clear q6;go_wp2_with fail
  refine (q8c A7 n7 c7 _ v.root 2 _ b3.sl (by omega) (by omega) (by omega)).mono ?_;rintro e w8 ⟨A8,n8,c8,rfl,b4,d0,a7⟩;have V8:=V7.below a7 V7.lt;have B8:=B7.trans (a7.mono B7.size);have q8:=V8.c3;clear q7;go_wp2_with fail
  refine (q8c A8 n8 c8 _ v.next 4 _ b4.sl (by omega) (by omega) (by omega)).mono ?_;rintro e w9 ⟨A9,n9,c9,rfl,Q,d1,b5⟩;have B9:=B8.trans (b5.mono B8.size);go_wp2;go_ret;refine⟨A9,n9,c9,rfl,?_,by omega,B9⟩;have e9:l++Zc (v.name.size:Int) (1:Int).toNat++Aq v.name++Zc (Nz v.ro) (1:Int).toNat++Zc v.root (2:Int).toNat++Zc v.next (4:Int).toNat=l++Xr v:=by
   unfold Xr;simp only[List.append_assoc];rfl
  rw[e9] at Q;exact Q.less B8.size
theorem qyc (b:BinOp)(x y:Operand)(xs ys:Array Value)(w:World):(eqGuard b 95 x y (.agg xs) (.agg ys)).run Tryz.prog w=.ok () w:=
 run_eqGuard_agg w b 95 x y xs ys (by kernel_rfl)
theorem qyd (x:Vl)(r:Bool)(h:x.same Vl.zero=r)(w:World):(binOp .neq 95 (.agg #[.string x.name,.bool x.ro,.int .i64 x.root,.int .i64 x.next]) (.agg #[.string ⟨#[]⟩,.bool false,.int .i64 0,.int .i64 0])).run Tryz.prog w=.ok (.bool (!r)) w:=qy9 x Vl.zero r h w
theorem SB.Qa3 {w:World}{b:Nat}{S:Sp}(H:SB w b S){k:Nat}(hk:k<=8):F5 w (some ⟨b,3,none⟩) k 8 (S.Jk.take k):=by
 have:=H.Vs.take hk;unfold F5;rwa [List.map_take]
theorem Qcf (b k:Nat)(f:k<=8)(w:World):(Instr.sliceAt 96 (.pointer (some ⟨b,3,none⟩)) none (some (.int .i64 (k:Int))) none).run Tryz.prog w=.ok (.slice (some ⟨b,3,none⟩) k 8) w:=by
 have d:Tryz.prog.arrayLen 96=8:=by kernel_rfl
 have e:(sizeOf (Tryz.prog.elem 96)).run Tryz.prog w=.ok 4 w:=by kernel_rfl
 rw[run_sliceAt_array_h w 96 _ (by kernel_rfl) .i64 _ (by omega) (by rw[d];omega),e,d];simp[slicedAt,Result.andThen,Addr.add_mid]
theorem ql6 (S:Sp)(r:Bool)(hr:S.may=r)(hf:S.fine)(w:World) :
  Calls Tryz.prog 52 #[.agg S.vs.toArray] w λe w'=>e=.returned (.bool r)/\Below w.1.size w w':=by
 subst hr;have H:=SB.new w S 98;have B:Below w.1.size w (w.alloc (.cells S.vs.toArray 98)):=Qm;have q0:=H.c0;have q1:=H.c1;have q2:=H.c2;go_enter Tryz.func52,Tryz.ntmps52
 go_wp2_with fail
 generalize w.alloc (.cells S.vs.toArray 98)=w1 at H B q0 q1 q2 ⊢;by_cases hg:1<=S.gen/\S.gen<=1099511627775
 ·refine (P7 S.gen 1 1099511627775 true (decide_eq_true hg) _).mono ?_;rintro e T ⟨rfl,rfl⟩;go_wp2_with fail
  by_cases G:32<=S.Qb/\S.Qb<=2048
  ·refine (P7 S.Qb 32 2048 true (decide_eq_true G) _).mono ?_;rintro e T ⟨rfl,rfl⟩;go_wp2_with fail
   by_cases hl:0<=S.log/\S.log<=S.Qb-1
   ·refine (P7 S.log 0 (S.Qb-1) true (decide_eq_true hl) _).mono ?_;rintro e T ⟨rfl,rfl⟩;have a1:S.hd=true:=decide_eq_true (by omega);have O:=Lib.hid (λh=>qiy (S:=S) a1 h);go_wp2_with (first
     |(refine qn3 rfl (.tmp 24) rfl w.1.size rfl S H ?_)
     |fail)
    go_loopw [26] (λi wr=>∃k:Nat,k<=8/\i=.int .i64 (k:Int)/\(∀j<k,S.ok1 j=true)/\Below w1.1.size w1 wr) (λi _=>8-(intOf i).toNat)
    case atStart=>exact⟨0,by omega,rfl,λj hj=>by omega,Below.refl _ _⟩
    case round=>
     obtain⟨k,hk,rfl,A,X⟩:=hrel;by_cases D:k<8
     ·have Q:=qy8 S D;have a7:(0:Int)<=(k:Int):=by omega
      obtain⟨x,hx⟩:∃x,S.at_ k=x:=⟨_,rfl⟩;have F:=hf k D;rw[hx] at Q F;have f:=Lib.hid (show S.ok1 k=(x.same Vl.zero||(x.ok S.Qb&&!Ve (S.Jk.take k) x.name)) by unfold Sp.ok1;rw[hx]);clear hx;have Hr:=H.below X H.lt;go_wp2_with fail
      have bx:Below wr.1.size wr (wr.alloc (.cells #[.string x.name,.bool x.ro,.int .i64 x.root,.int .i64 x.next] 95)):=Qm;have M:(wr.alloc (.cells #[.string x.name,.bool x.ro,.int .i64 x.root,.int .i64 x.next] 95)).1[wr.1.size]?=some (.cells #[.string x.name,.bool x.ro,.int .i64 x.root,.int .i64 x.next] 95 (0,0)):=heap_alloc_new wr _;have W:wr.1.size<(wr.alloc (.cells #[.string x.name,.bool x.ro,.int .i64 x.root,.int .i64 x.next] 95)).1.size:=by simp
      generalize wr.alloc (.cells #[.string x.name,.bool x.ro,.int .i64 x.root,.int .i64 x.next] 95)=U at bx M W ⊢;have K:=Hr.below bx Hr.lt;have q0:∀u:Grown U,u.to.cell? ⟨wr.1.size,0,none⟩=some (.string x.name):=Grown.cell (by rw[cell_of_row _ _ _ _ _ _ M];rfl) W;have q1:∀u:Grown U,u.to.cell? ⟨wr.1.size,1,none⟩=some (.bool x.ro):=Grown.cell (by rw[cell_of_row _ _ _ _ _ _ M];rfl) W;have q2:∀u:Grown U,u.to.cell? ⟨wr.1.size,2,none⟩=some (.int .i64 x.root):=Grown.cell (by rw[cell_of_row _ _ _ _ _ _ M];rfl) W;have q3:∀u:Grown U,u.to.cell? ⟨wr.1.size,3,none⟩=some (.int .i64 x.next):=Grown.cell (by rw[cell_of_row _ _ _ _ _ _ M];rfl) W;have q4:∀u:Grown U,u.to.cell? ⟨w.1.size,1,none⟩=some (.int .i64 S.Qb):=Grown.cell K.c1 K.lt;have b:=X.trans (bx.mono X.size);have hG:=qyc;have a8:=Qcf w.1.size k (by omega);clear M Q;obtain⟨z,Y⟩:∃z,x.same Vl.zero=z:=⟨_,rfl⟩;have a6:=qyd x z Y
      cases z
      ·obtain⟨m,p⟩:∃m,x.ok S.Qb=m:=⟨_,rfl⟩
       cases m
       ·have J:=Lib.hid (qvj (S:=S) D (by rw[f.out,Y,p];rfl));refine Yc (by kernel_rfl) (by kernel_rfl) ?_;repeat (go_big_quiet_step (first
         |(go_at_call 89;exact Calls.grown (q6f x S.Qb G.1 G.2 false p F _))
         |fail))
        refine wpQuiet_nil ?_;rintro _ ⟨u,rfl⟩;have d:=b.trans (u.ok.mono b.size);go_wp2;go_ret;exact⟨by rw[J.out];rfl,B.trans (d.mono B.size)⟩
       ·obtain⟨nm,E⟩:∃nm,Ve (S.Jk.take k) x.name=nm:=⟨_,rfl⟩
        cases nm
        ·have Z:=Lib.hid (show (x.same Vl.zero||(x.ok S.Qb&&!Ve (S.Jk.take k) x.name))=true by rw[p,E];simp);refine Yc (by kernel_rfl) (by kernel_rfl) ?_;repeat (go_big_quiet_step (first
          |(go_at_call 89;exact Calls.grown (q6f x S.Qb G.1 G.2 true p F _))
          |(go_at_call 90;exact Calls.grown (qda (S.Jk.take k) x.name false E _ k 8 _ ((K.below (Grown.ok _) K.lt).Qa3 (by omega)) (by omega)))
          |fail))
         refine wpQuiet_nil ?_;rintro _ ⟨u,rfl⟩;have d:=b.trans (u.ok.mono b.size);go_wp2;refine⟨⟨k+1,by omega,by go_num,λj hj=>?_,d⟩,by simp[intOf];omega⟩;by_cases I:j=k
         ·rw[I,f.out,Z.out]
         ·exact A j (by omega)
        ·have J:=Lib.hid (qvj (S:=S) D (by rw[f.out,Y,p,E];rfl));refine Yc (by kernel_rfl) (by kernel_rfl) ?_;repeat (go_big_quiet_step (first
          |(go_at_call 89;exact Calls.grown (q6f x S.Qb G.1 G.2 true p F _))
          |(go_at_call 90;exact Calls.grown (qda (S.Jk.take k) x.name true E _ k 8 _ ((K.below (Grown.ok _) K.lt).Qa3 (by omega)) (by omega)))
          |fail))
         refine wpQuiet_nil ?_;rintro _ ⟨u,rfl⟩;have d:=b.trans (u.ok.mono b.size);go_wp2;go_ret;exact⟨by rw[J.out];rfl,B.trans (d.mono B.size)⟩
      ·have Z:=Lib.hid (show (x.same Vl.zero||(x.ok S.Qb&&!Ve (S.Jk.take k) x.name))=true by rw[Y];rfl);refine Yc (by kernel_rfl) (by kernel_rfl) ?_;repeat (go_big_quiet_step (first
        |fail))
       refine wpQuiet_nil ?_;rintro _ ⟨u,rfl⟩;have d:=b.trans (u.ok.mono b.size);go_wp2;refine⟨⟨k+1,by omega,by go_num,λj hj=>?_,d⟩,by simp[intOf];omega⟩;by_cases I:j=k
       ·rw[I,f.out,Z.out]
       ·exact A j (by omega)
     ·have a2:k=8:=by omega
      have R:=Lib.hid (O.out (by rw[<-a2];exact A));go_wp2;go_ret;exact⟨by rw[R.out];rfl,B.trans (X.mono B.size)⟩
   ·refine (P7 S.log 0 (S.Qb-1) false (decide_eq_false hl) _).mono ?_;rintro e T ⟨rfl,rfl⟩;have y:=Lib.hid (qrm (S:=S) (decide_eq_false (by omega)));go_wp2;go_ret;exact⟨by rw[y.out];rfl,B⟩
  ·refine (P7 S.Qb 32 2048 false (decide_eq_false G) _).mono ?_;rintro e T ⟨rfl,rfl⟩;have y:=Lib.hid (qrm (S:=S) (decide_eq_false (by omega)));go_wp2;go_ret;exact⟨by rw[y.out];rfl,B⟩
 ·refine (P7 S.gen 1 1099511627775 false (decide_eq_false hg) _).mono ?_;rintro e T ⟨rfl,rfl⟩;have y:=Lib.hid (qrm (S:=S) (decide_eq_false (by omega)));go_wp2;go_ret;exact⟨by rw[y.out];rfl,B⟩
section
def ldS (p:Value):Sem Value:=Instr.loadAt 98 p
theorem q1n (p:Value):Instr.loadAt 98 p=ldS p:=rfl
def ldA (p:Value):Sem Value:=Instr.loadAt 96 p
theorem q7c (p:Value):Instr.loadAt 96 p=ldA p:=rfl
theorem SB.ld {w:World}{b:Nat}{S:Sp}(H:SB w b S):(ldS (.pointer (some ⟨b,0,none⟩))).run Tryz.prog w=.ok (.agg S.vs.toArray) w:=Qb4 H
theorem SB.lda {w:World}{b:Nat}{S:Sp}(H:SB w b S):(ldA (.pointer (some ⟨b,3,none⟩))).run Tryz.prog w=.ok (.agg (S.Jk.flatMap Vl.vs).toArray) w:=Qb5 H
attribute [local go_sem ↓] q1n q7c
def Jg (S:Sp):List UInt8:=Zz S 8
theorem qro (S:Sp)(hv:∀j,j<8->(S.at_ j).name.size<=10)(w:World) :
  Calls Tryz.prog 127 #[.agg S.vs.toArray] w λe w'=>∃W Z X,e=.returned (.slice W Z X)/\Own w' w.1.size 5 W Z X (Jg S)/\Below w.1.size w w':=by
 have y:=SB.new w S 98;have K:Below w.1.size w (w.alloc (.cells S.vs.toArray 98)):=Qm;have q1:=y.c1;go_enter Tryz.func127,Tryz.ntmps127
 go_wp2_with fail
 generalize w.alloc (.cells S.vs.toArray 98)=w1 at y K q1 ⊢;refine (q8c none 0 0 [] S.Qb 2 _ (q24 _) (by omega) (by omega) (by omega)).mono ?_;rintro e w2 ⟨A2,n2,c2,rfl,m,a2,B⟩;have I:=y.below B y.lt;have J:=K.trans (B.mono K.size);have q2:=I.c2;clear q1;go_wp2_with fail
 refine (q8c A2 n2 c2 _ S.log 2 _ m.sl (by omega) (by omega) (by omega)).mono ?_;rintro e w3 ⟨A3,n3,c3,rfl,d,a6,D⟩;have H3:=I.below D I.lt;have B3:=J.trans (D.mono J.size);have q3:=H3.lda;have e3:[]++Zc S.Qb (2:Int).toNat++Zc S.log (2:Int).toNat=Zz S 0:=by rw[qbd];rfl
 rw[e3] at d;have d:=d.less J.size;clear q2 y I m;go_wp2_with fail
 go_loopw [3,15] (λb i wr=>∃(k:Nat) (A:Option Addr) (n c:Nat),k<=8/\n<=4+18*k/\b=.slice A n c/\i=.int .i64 (k:Int)/\Own wr w.1.size 5 A n c (Zz S k)/\Below w.1.size w wr) (λ_ i _=>8-(intOf i).toNat)
 case atStart=>exact⟨0,A3,n3,c3,by omega,by omega,rfl,rfl,d,B3⟩
 case round=>
  obtain⟨k,A,n,c,hk,hn,rfl,rfl,own,O⟩:=hrel;by_cases u:k<8
  ·have R:=qy8 S u;have a1:(0:Int)<=(k:Int):=by omega
   have F:=Lib.hid (qbe S u);have G:=hv k u;obtain⟨x,Y⟩:∃x,S.at_ k=x:=⟨_,rfl⟩;rw[Y] at R G F;clear Y;go_wp2_with fail
   have M:Below wr.1.size wr (wr.alloc (.cells #[.string x.name,.bool x.ro,.int .i64 x.root,.int .i64 x.next] 95)):=Qm;have H:=own.below M;have f:=O.trans (M.mono O.size);generalize wr.alloc (.cells #[.string x.name,.bool x.ro,.int .i64 x.root,.int .i64 x.next] 95)=wx at M H f ⊢;refine (qn7 x G A n c _ wx H.sl (by omega)).mono ?_;rintro e w5 ⟨A5,n5,c5,rfl,p,U,Q⟩;rw[<-F.out] at p;have E:n5<=4+18*(k+1):=by omega
   clear U;go_wp2;exact⟨⟨k+1,A5,n5,c5,by omega,E,rfl,by go_num,p.less f.size,f.trans (Q.mono f.size)⟩,by simp[intOf];omega⟩
  ·have T:k=8:=by omega
   rw[T] at own;go_wp2;go_ret;exact⟨_,_,_,rfl,own,O⟩
end
def rdN (l:List UInt8):ByteArray:=⟨((l.drop 1).take (min (gN l 0 1) 10)).toArray⟩
def Iw (l:List UInt8):Vl:=⟨rdN l,decide (gN l 11 1≠0),(gN l 12 2:Int),(gN l 14 4:Int)⟩
theorem qun (l:List UInt8):(rdN l).size<=10:=by
 unfold rdN;show (List.take _ _).toArray.size<=10;rw[List.size_toArray,List.length_take];omega
theorem D7 {l0:List UInt8}(p m n:Nat){A:Option Addr}{c:Nat}{w:World}(h:Sl w A n c (l0.drop p))(y:Int)(G:y=(m:Int))(h1:1<=m)(H:m<=7)(hn:m<=n)(F:n<=100000) :
  Calls Tryz.prog 149 #[.slice A n c,.int .i64 y] w λe u=>∃d b f,e=.returned (.tuple #[.int .i64 (gN l0 p m),.slice d b f,.int .i64 0])/\Own u w.1.size 5 d b f (l0.drop (p+m))/\(b+m<=n/\n<=b+m)/\Below w.1.size w u:=by
 refine (q6w A n c _ y w h (by omega) (by omega) (by omega) (by omega)).mono ?_;rintro e u ⟨d,b,f,rfl,own,B⟩;subst G;rw[Int.toNat_natCast,List.drop_drop] at own;rw[Int.toNat_natCast];have D:=own.len;have E:=h.len;rw[List.length_drop] at D E;exact⟨d,b,f,rfl,own,⟨by omega,by omega⟩,B⟩
theorem Own.some_ {w:World}{base n c:Nat}{e:TypeId}{A:Option Addr}{l:List UInt8}(h:Own w base e A n c l)(h0:0<n):∃g,A=some ⟨g,0,none⟩:=by
 rcases h.2 with⟨b,rfl⟩|⟨g,cap,d,b,_⟩
 ·omega
 ·injection b with f;exact⟨g,f⟩
theorem VB.set0 {w:World}{b:Nat}{v:Vl}(H:VB w b v)(s:ByteArray):VB (w.setCell ⟨b,0,none⟩ (.string s)) b ⟨s,v.ro,v.root,v.next⟩:=by
 obtain⟨t,H⟩:=H;exact⟨t,heap_setCell_same w b 0 _ t _ H⟩
theorem VB.set1 {w:World}{b:Nat}{v:Vl}(H:VB w b v)(x:Bool):VB (w.setCell ⟨b,1,none⟩ (.bool x)) b ⟨v.name,x,v.root,v.next⟩:=by
 obtain⟨t,H⟩:=H;exact⟨t,heap_setCell_same w b 1 _ t _ H⟩
theorem VB.set2 {w:World}{b:Nat}{v:Vl}(H:VB w b v)(x:Int):VB (w.setCell ⟨b,2,none⟩ (.int .i64 x)) b ⟨v.name,v.ro,x,v.next⟩:=by
 obtain⟨t,H⟩:=H;exact⟨t,heap_setCell_same w b 2 _ t _ H⟩
theorem VB.Qcr {w:World}{b:Nat}{v:Vl}(H:VB w b v)(x:Int):VB (w.setCell ⟨b,3,none⟩ (.int .i64 x)) b ⟨v.name,v.ro,v.root,x⟩:=by
 obtain⟨t,H⟩:=H;exact⟨t,heap_setCell_same w b 3 _ t _ H⟩
theorem q8d {w:World}{b base n c j:Nat}{e:TypeId}{A:Option Addr}{l:List UInt8}(own:Own w base e A n c l)(d:b<base)(x:Value):Own (w.setCell ⟨b,j,none⟩ x) base e A n c l:=
 own.turn λg f _=>Below.heap_setCell _ _ _ _ (by show g≠b;omega)
theorem q3x (w:World)(b j:Nat)(x:Value):Below b w (w.setCell ⟨b,j,none⟩ x):=(Below.refl _ w).setCell (p:=⟨b,j,none⟩) (Nat.le_refl _) _
theorem q23 {f:Func}{p a:Tmp}{ty:TypeId}{d:Addr}{v:Value}{P:Program}{w:World}{b:Array Value}(h:f.results=#[.cell p ty,.tmp a])(u:b.getD p undef=.pointer (some d))(m:(loadVar ty d).run P w=.ok v w) :
  (results f b).run P w=.ok (.tuple #[v,b.getD a undef]) w:=by
 have e:(results f b).run P w=((asAddr (b.getD p undef)).run P w).andThen λd y=>((loadVar ty d).run P y).andThen λv A=>.ok (.tuple #[v,b.getD a undef]) A:=by
  simp only[results,h];simp[Sem.run_bind,Result.andThen]
 rw[e,u];simp[asAddr,m]
theorem qj0 (A:Option Addr)(n c:Nat)(l:List UInt8)(w:World)(hs:Sl w A n c l)(hn:18<=n)(e0:n<=1000) :
  Calls Tryz.prog 164 #[.slice A n c] w λe w'=>
   ∃A' n' c',e=.returned (.tuple #[(Iw l).v,.slice A' n' c'])/\Own w' w.1.size 5 A' n' c' (l.drop 18)/\(n'+18<=n/\n<=n'+18)/\Below w.1.size w w':=by
 have Z1:VB (w.alloc (.cells #[.string ⟨#[]⟩,.bool false,.int .i64 0,.int .i64 0] 95)) w.1.size Vl.zero:=VB.new w Vl.zero _;have b1:Below w.1.size w (w.alloc (.cells #[.string ⟨#[]⟩,.bool false,.int .i64 0,.int .i64 0] 95)):=Qm;have z1:(w.alloc (.cells #[.string ⟨#[]⟩,.bool false,.int .i64 0,.int .i64 0] 95)).1.size=w.1.size+1:=by simp
 go_enter Tryz.func164,Tryz.ntmps164
 go_wp2_with fail
 generalize w.alloc (.cells #[.string ⟨#[]⟩,.bool false,.int .i64 0,.int .i64 0] 95)=T at Z1 b1 z1 ⊢;rw[<-z1];have V2:VB (T.alloc (.cells #[.string ⟨#[]⟩,.bool false,.int .i64 0,.int .i64 0] 95)) T.1.size Vl.zero:=VB.new T Vl.zero _;have b2:Below T.1.size T (T.alloc (.cells #[.string ⟨#[]⟩,.bool false,.int .i64 0,.int .i64 0] 95)):=Qm;generalize T.alloc (.cells #[.string ⟨#[]⟩,.bool false,.int .i64 0,.int .i64 0] 95)=w2 at V2 b2 ⊢;have Z2:=Z1.below b2 (by omega);have B2:=b1.trans (b2.mono b1.size);obtain⟨d,a8⟩:∃d,T.1.size=d:=⟨_,rfl⟩;rw[a8] at V2 ⊢;have e6:w.1.size<d:=by omega
 clear Z1 b1 b2 z1 a8;refine (D7 (l0:=l) 0 1 n (hs.below B2) 1 rfl (by omega) (by omega) (by omega) (by omega)).mono ?_;rintro e f ⟨A3,n3,c3,rfl,b,e1,F⟩;have V3:=V2.below F V2.lt;have Z3:=Z2.below F Z2.lt;have B3:=B2.trans (F.mono B2.size);have b5:=V2.lt;obtain⟨m,hm⟩:∃m,gN l 0 1=m:=⟨_,rfl⟩;have u:=Lib.hid (show rdN l=⟨((l.drop 1).take (min m 10)).toArray⟩ by unfold rdN;rw[hm]);rw[hm];clear hm Z2 V2;have v3:=V3.c0;have f3:=V3.fz 0;have b:Own f w2.1.size 5 A3 n3 c3 (l.drop 1):=b;have d9:=b.sl.cap;have d4:=b.sl.max;unfold maxLen at d4;obtain⟨g3,d5⟩:=b.some_ (by omega);subst d5;obtain⟨nm,J⟩:∃nm,rdN l=nm:=⟨_,rfl⟩;have c8:=Lib.hid J;have b7:m<=10->(convert 31 9 (.slice (some ⟨g3,0,none⟩) m c3)).run Tryz.prog f=.ok (.string nm) f:=λh=>by
  have:=Pg (b.sl.take (k:=m) (by omega));rw[this,<-J,u.out,Nat.min_eq_left h]
 have b8:10<m->(convert 31 9 (.slice (some ⟨g3,0,none⟩) 10 c3)).run Tryz.prog f=.ok (.string nm) f:=λh=>by
  have:=Pg (b.sl.take (k:=10) (by omega));rw[this,<-J,u.out,Nat.min_eq_right (by omega)]
 have E:=b.sl.drop (k:=10) (by omega);rw[if_neg (by omega),List.drop_drop] at E;have E:Sl f (some ⟨g3,10,none⟩) (n3-10) (c3-10) (l.drop 11):=E;have i1:(10:Nat)<=c3:=by omega
 have i2:¬c3=10:=by omega
 clear J u;rcases (by omega:m<=10\/10<m) with hm|hm
 all_goals
  have i3:((m:Int)<=10)=(m<=10):=by rw[eq_iff_iff];omega
  first|(have K:=b7 hm;have i4:(m:Int)<=10:=by omega)|(have K:=b8 hm;have i4:¬(m:Int)<=10:=by omega)
  have i5:(0:Int)<=(m:Int):=by omega
  have i6:m<=10->m<=c3:=by omega
  clear b7 b8 i3;have M:=q8d b (show d<w2.1.size from b5) (j:=0) (.string nm);have U:=q3x f d 0 (.string nm);have Y:Sl (f.setCell ⟨d,0,none⟩ (.string nm)) (some ⟨g3,10,none⟩) (n3-10) (c3-10) (l.drop 11):=by
   have:=M.sl.drop (k:=10) (by omega);rw[if_neg (by omega),List.drop_drop] at this;exact this
  have V4:=V3.set0 nm;have Z4:=Z3.below U (by omega);have B4:=B3.trans (U.mono (by omega));have z4:(f.setCell ⟨d,0,none⟩ (.string nm)).1.size=f.1.size:=World.size_setCell ..;go_wp2_with fail
  clear K M U E v3 f3 V3 Z3 B3 b;have e7:=F.size;have b0:d<(f.setCell ⟨d,0,none⟩ (.string nm)).1.size:=by omega
  generalize f.setCell ⟨d,0,none⟩ (.string nm)=w4 at Y V4 Z4 B4 z4 b0 ⊢;refine (D7 (l0:=l) 11 1 (n3-10) Y 1 rfl (by omega) (by omega) (by omega) (by omega)).mono ?_;rintro e w5 ⟨A5,n5,c5,rfl,O,e2,G⟩;have V5:=V4.below G V4.lt;have Z5:=Z4.below G Z4.lt;have B5:=B4.trans (G.mono B4.size);obtain⟨mk,Z⟩:∃mk,gN l 11 1=mk:=⟨_,rfl⟩;rw[Z];have v5:=V5.c1;have f5:=V5.fz 1;obtain⟨ro,a1⟩:∃ro,decide (mk≠0)=ro:=⟨_,rfl⟩;have b6:((mk:Int)!=0)=ro:=by rw[<-a1,Bool.eq_iff_iff];simp
  have d0:=Lib.hid (show decide (gN l 11 1≠0)=ro by rw[Z];exact a1);have y:=q8d O (show d<w4.1.size from b0) (j:=1) (.bool ro);have W:=q3x w5 d 1 (.bool ro);have V6:=V5.set1 ro;have Z6:=Z5.below W (by omega);have B6:=B5.trans (W.mono (by omega));have z6:(w5.setCell ⟨d,1,none⟩ (.bool ro)).1.size=w5.1.size:=World.size_setCell ..;clear a1 Z;go_wp2_with fail
  clear O W v5 f5 V5 Z5 B5 b6 Y V4 Z4 B4 z4;have e8:=G.size;have b3:d<(w5.setCell ⟨d,1,none⟩ (.bool ro)).1.size:=by omega
  have d7:w4.1.size<=(w5.setCell ⟨d,1,none⟩ (.bool ro)).1.size:=by omega
  generalize w5.setCell ⟨d,1,none⟩ (.bool ro)=w6 at y V6 Z6 B6 z6 b3 d7 ⊢;refine (D7 (l0:=l) 12 2 n5 y.sl 2 rfl (by omega) (by omega) (by omega) (by omega)).mono ?_;rintro e w7 ⟨A7,n7,c7,rfl,Q,e3,H⟩;have V7:=V6.below H V6.lt;have Z7:=Z6.below H Z6.lt;have B7:=B6.trans (H.mono B6.size);have v7:=V7.c2;have f7:=V7.fz 2;have B:=q8d Q (show d<w6.1.size from b3) (j:=2) (.int .i64 (gN l 12 2:Int));have X:=q3x w7 d 2 (.int .i64 (gN l 12 2:Int));have V8:=V7.set2 (gN l 12 2:Int);have Z8:=Z7.below X (by omega);have B8:=B7.trans (X.mono (by omega));have z8:(w7.setCell ⟨d,2,none⟩ (.int .i64 (gN l 12 2:Int))).1.size=w7.1.size:=World.size_setCell ..;go_wp2_with fail
  clear Q X v7 f7 V7 Z7 B7 y V6 Z6 B6 z6;have e9:=H.size;have b4:d<(w7.setCell ⟨d,2,none⟩ (.int .i64 (gN l 12 2:Int))).1.size:=by omega
  generalize w7.setCell ⟨d,2,none⟩ (.int .i64 (gN l 12 2:Int))=w8 at B V8 Z8 B8 z8 b4 ⊢;refine (D7 (l0:=l) 14 4 n7 B.sl 4 rfl (by omega) (by omega) (by omega) (by omega)).mono ?_;rintro e w9 ⟨A9,n9,c9,rfl,R,e4,I⟩;have V9:=V8.below I V8.lt;have Z9:=Z8.below I Z8.lt;have B9:=B8.trans (I.mono B8.size);have v9:=V9.c3;have f9:=V9.fz 3;have a2:=q8d R (show d<w8.1.size from b4) (j:=3) (.int .i64 (gN l 14 4:Int));have p:=q3x w9 d 3 (.int .i64 (gN l 14 4:Int));have D:=V9.Qcr (gN l 14 4:Int);have d3:=Z9.below p (by omega);have b9:=B9.trans (p.mono (by omega));have u0:=D.c0;have u1:=D.c1;have u2:=D.c2;have u3:=D.c3;have f0:=I.size;have e5:w.1.size<w8.1.size:=by omega
  clear R p V9 Z9 B9 B V8 Z8 B8 z8;go_wp2_with (first
   |(refine qiq rfl _ _ rfl w.1.size rfl ⟨nm,ro,(gN l 12 2:Int),(gN l 14 4:Int)⟩ Vl.zero rfl d3 ?_;intro d8 d2 a7 d1)
   |fail)
  have a6:=a2.turn (w':=d8) λg hg hl=>d1.block g hl (by show ¬g=w.1.size;omega)
  have c6:=b9.trans (a7 _ (Nat.le_refl _));have d6:Iw l=⟨nm,ro,(gN l 12 2:Int),(gN l 14 4:Int)⟩:=by unfold Iw;rw[c8.out,d0.out]
  refine bodyPost_ret (q23 Tryz.results164 rfl (qx1 d2)) rfl ?_;rw[d6];exact⟨A9,n9,c9,rfl,a6.less (by omega),⟨by omega,by omega⟩,c6⟩
section
def Vw (g:Int)(l:List UInt8)(k:Nat):Sp:=⟨g,(gN l 0 2:Int),(gN l 2 2:Int),(List.range 8).map (λi=>if i<k then Iw (l.drop (4+18*i)) else Vl.zero),by simp⟩
def rdS (g:Int)(l:List UInt8):Sp:=Vw g l 8
def sp0 (g a b:Int):Sp:=⟨g,a,b,List.replicate 8 Vl.zero,rfl⟩
theorem qn8 (g:Int)(l:List UInt8):Vw g l 0=sp0 g (gN l 0 2:Int) (gN l 2 2:Int):=rfl
theorem qn9 (g:Int)(l:List UInt8){k:Nat}(_:k<8):(Vw g l k).Ph k (Iw (l.drop (4+18*k)))=Vw g l (k+1):=by
 refine Sp.ext' rfl rfl rfl ?_;show (((List.range 8).map (λi=>if i<k then Iw (l.drop (4+18*i)) else Vl.zero)).set k (Iw (l.drop (4+18*k))))=(List.range 8).map (λi=>if i<k+1 then Iw (l.drop (4+18*i)) else Vl.zero);refine List.ext_getElem (by simp) λi h1 h2=>?_
 have d:i<8:=by simpa using h2
 rw[List.getElem_set];by_cases h:k=i
 ·subst h;simp
 ·rw[if_neg h];simp only[List.getElem_map,List.getElem_range];by_cases b:i<k
  ·rw[if_pos b,if_pos (by omega)]
  ·rw[if_neg b,if_neg (by omega)]
theorem quo (g:Int)(l:List UInt8)(k:Nat){i:Nat}(b:i<8):(Vw g l k).at_ i=if i<k then Iw (l.drop (4+18*i)) else Vl.zero:=by
 have h:=(Vw g l k).get b;have h2:(Vw g l k).Jk[i]?=some (if i<k then Iw (l.drop (4+18*i)) else Vl.zero):=by
  show ((List.range 8).map (λi=>if i<k then Iw (l.drop (4+18*i)) else Vl.zero))[i]?=_;rw[List.getElem?_map,List.getElem?_range b];rfl
 rw[h] at h2;exact Option.some.inj h2
theorem qup (g:Int)(l:List UInt8):(rdS g l).fine:=λk b=>by
 unfold rdS;rw[quo g l 8 b,if_pos b];have:=qun (l.drop (4+18*k));unfold maxLen;show (rdN _).size<=_;omega
theorem SB.set1 {w:World}{b:Nat}{S:Sp}(H:SB w b S)(x:Int):SB (w.setCell ⟨b,1,none⟩ (.int .i64 x)) b ⟨S.gen,x,S.log,S.Jk,S.len⟩:=by
 obtain⟨t,H⟩:=H;exact⟨t,heap_setCell_same w b 1 _ t _ H⟩
theorem SB.set2 {w:World}{b:Nat}{S:Sp}(H:SB w b S)(x:Int):SB (w.setCell ⟨b,2,none⟩ (.int .i64 x)) b ⟨S.gen,S.Qb,x,S.Jk,S.len⟩:=by
 obtain⟨t,H⟩:=H;exact⟨t,heap_setCell_same w b 2 _ t _ H⟩
theorem qj1 {ops:Array Oper}{d:List Oper}{o:Oper}{a:Act}{w:World}{Q:Exit->Act->World->Prop}(p:o.guard=none)(x y:Operand)(f:o.op=Op.store 95 x y)
  (b k:Nat) (u:k<8) (A:a.eval x=.pointer (some ⟨b,3+k*4,none⟩)) (v:Vl) (S:Sp) (D:a.eval y=v.v) (H:SB w b S)
  (m:∀e,SB e b (S.Ph k v)->(∀B,B<=b->Below B w e)->Turn (λk=>k=b) w e->wpList Tryz.prog ops Q d (a.put o.dst undef) e):wpList Tryz.prog ops Q (o::d) a w:=
 qip p x y f b k u (by rw[A,Nat.mul_comm]) v S D H m
def alS (h:Bool)(old:Value):Sem Value:=Instr.alloc 98 h old
theorem q3f (h:Bool)(old:Value):Instr.alloc 98 h old=alS h old:=rfl
def bdS (parts:Array (Nat × Value)):Sem Value:=Instr.build 98 parts
theorem q9e (parts:Array (Nat × Value)):Instr.build 98 parts=bdS parts:=rfl
theorem qbf (h:Bool)(w:World):(alS h (.tuple #[])).run Tryz.prog w=.ok (.pointer (some ⟨w.1.size,0,none⟩)) (w.alloc (.cells Sp.zero.vs.toArray 98)):=by
 cases h
 ·show (Instr.alloc 98 false (.tuple #[])).run Tryz.prog w=_;kernel_rfl
 ·show (Instr.alloc 98 true (.tuple #[])).run Tryz.prog w=_;kernel_rfl
theorem ql7 (w:World):(bdS #[]).run Tryz.prog w=.ok (.agg Sp.zero.vs.toArray) w:=by
 show (Instr.build 98 #[]).run Tryz.prog w=_;kernel_rfl
theorem qx6 (g:Int)(w:World):(bdS #[(0,.int .i64 g)]).run Tryz.prog w=.ok (.agg (sp0 g 0 0).vs.toArray) w:=by
 show (Instr.build 98 #[(0,.int .i64 g)]).run Tryz.prog w=_;kernel_rfl
attribute [local go_sem ↓] q1n q7c q3f q9e
theorem qew (g:Int)(A:Option Addr)(n c:Nat)(l:List UInt8)(w:World)(hs:Sl w A n c l)(hn:148<=n)(d7:n<=1000) :
  Calls Tryz.prog 132 #[.int .i64 g,.slice A n c] w λe w'=>e=.returned (.agg (rdS g l).vs.toArray)/\Below w.1.size w w':=by
 have b5:=qbf;have b6:=qx6 g;have Z1:=SB.new w Sp.zero 98;have b1:Below w.1.size w (w.alloc (.cells Sp.zero.vs.toArray 98)):=Qm;have z1:(w.alloc (.cells Sp.zero.vs.toArray 98)).1.size=w.1.size+1:=by simp
 have H2:=SB.new (w.alloc (.cells Sp.zero.vs.toArray 98)) Sp.zero 98;rw[z1] at H2;go_enter Tryz.func132,Tryz.ntmps132
 go_wp2_with (first
  |(refine Ec rfl _ _ rfl (w.1.size+1) rfl (sp0 g 0 0) Sp.zero rfl H2 ?_;intro w3 T Y T3)
  |fail)
 have b2:Below (w.alloc (.cells Sp.zero.vs.toArray 98)).1.size (w.alloc (.cells Sp.zero.vs.toArray 98)) ((w.alloc (.cells Sp.zero.vs.toArray 98)).alloc (.cells Sp.zero.vs.toArray 98)):=Qm;rw[z1] at b2;have b3:=b2.trans (Y _ (Nat.le_refl _));have Z3:=Z1.below b3 (by omega);have B3:=b1.trans (b3.mono (by omega));obtain⟨d,a1⟩:∃d,w.1.size+1=d:=⟨_,rfl⟩;rw[a1] at T ⊢;have d0:w.1.size<d:=by omega
 have a8:=hs.below B3;clear Z1 b1 z1 H2 Y T3 b2 b3 a1 b5 b6;refine (D7 (l0:=l) 0 2 n a8 2 rfl (by omega) (by omega) (by omega) (by omega)).mono ?_;rintro e w4 ⟨A4,n4,c4,rfl,E,b8,f⟩;have H4:=T.below f T.lt;have Z4:=Z3.below f Z3.lt;have B4:=B3.trans (f.mono B3.size);have q4:=H4.c1;have f4:=H4.fz 1;obtain⟨I,O⟩:∃I:Int,(gN l 0 2:Int)=I:=⟨_,rfl⟩;rw[O];have F:=q8d E (show d<w3.1.size from T.lt) (j:=1) (.int .i64 I);have J:=q3x w4 d 1 (.int .i64 I);have U:=H4.set1 I;have Z5:=Z4.below J (by omega);have B5:=B4.trans (J.mono (by omega));have z5:(w4.setCell ⟨d,1,none⟩ (.int .i64 I)).1.size=w4.1.size:=World.size_setCell ..;go_wp2_with fail
 clear E J q4 f4 H4 Z4 B4 T Z3 B3 a8;have d1:=f.size;generalize w4.setCell ⟨d,1,none⟩ (.int .i64 I)=w5 at F U Z5 B5 z5 ⊢;refine (D7 (l0:=l) 2 2 n4 F.sl 2 rfl (by omega) (by omega) (by omega) (by omega)).mono ?_;rintro e R ⟨A6,n6,c6,rfl,G,b9,D⟩;have H6:=U.below D U.lt;have Z6:=Z5.below D Z5.lt;have B6:=B5.trans (D.mono B5.size);have q6:=H6.c2;have f6:=H6.fz 2;obtain⟨B,Q⟩:∃B:Int,(gN l 2 2:Int)=B:=⟨_,rfl⟩;rw[Q];have u:=q8d G (show d<w5.1.size from U.lt) (j:=2) (.int .i64 B);have K:=q3x R d 2 (.int .i64 B);have W:=H6.set2 B;have Z7:=Z6.below K (by omega);have B7:=B6.trans (K.mono (by omega));have z7:(R.setCell ⟨d,2,none⟩ (.int .i64 B)).1.size=R.1.size:=World.size_setCell ..;go_wp2_with fail
 clear G K q6 f6 H6 Z6 B6 U Z5 B5;have d8:n6+4<=n/\n<=n6+4:=by omega
 have e7:∀H:Sp,SB (R.setCell ⟨d,2,none⟩ (.int .i64 B)) d H->H=sp0 g I B->SB (R.setCell ⟨d,2,none⟩ (.int .i64 B)) d (Vw g l 0):=λH h e=>by
  rw[qn8,O,Q,<-e];exact h
 have W:=e7 _ W rfl;generalize R.setCell ⟨d,2,none⟩ (.int .i64 B)=w7 at u W Z7 B7 z7 e7 ⊢;have b4:Sl w7 A6 n6 c6 (l.drop (4+18*0)):=u.sl;clear e7 u D f O Q z7 z5 b9 b8 d1;go_loopw [1,23] (λb i wr=>∃(k m:Nat) (A:Option Addr) (c:Nat),k<=8/\n<=m+4+18*k/\m<=n/\b=.slice A m c/\i=.int .i64 (k:Int)/\Sl wr A m c (l.drop (4+18*k))/\SB wr d (Vw g l k)/\SB wr w.1.size Sp.zero/\Below w.1.size w wr) (λ_ i _=>8-(intOf i).toNat)
 case atStart=>exact⟨0,n6,A6,c6,by omega,by omega,by omega,rfl,rfl,b4,W,Z7,B7⟩
 case round=>
  clear b4 W Z7 B7;obtain⟨k,m,A,c,hk,d5,d6,rfl,rfl,sl,H,Z,hB⟩:=hrel;by_cases a2:k<8
  ·have d2:(0:Int)<=(k:Int):=by omega
   have a7:=Lib.hid (qn9 g l a2);go_wp2_with fail
   refine (qj0 A m c _ wr sl (by omega) (by omega)).mono ?_;rintro e w8 ⟨A8,n8,c8,rfl,y,c7,M⟩;have H8:=H.below M H.lt;have Z8:=Z.below M Z.lt;have B8:=hB.trans (M.mono hB.size);rw[List.drop_drop,show 4+18*k+18=4+18*(k+1) by omega] at y;have d4:=H.lt;have c9:n<=n8+4+18*(k+1):=by omega
   have a6:n8<=n:=by omega
   clear H Z hB sl c7;obtain⟨v,hv⟩:∃v,Iw (l.drop (4+18*k))=v:=⟨_,rfl⟩;have X:=Lib.hid (show (Vw g l k).Ph k v=Vw g l (k+1) by rw[<-hv];exact a7.out);rw[hv];clear hv a7;go_wp2_with (first
    |(refine qj1 rfl _ _ rfl d k a2 rfl v (Vw g l k) rfl H8 ?_;intro w9 H9 p T9)
    |fail)
   rw[X.out] at H9;have b0:=y.turn (w':=w9) λq hq hl=>T9.block q hl (by show ¬q=d;omega)
   have Z9:=Z8.below (p d (Nat.le_refl _)) d0;have B9:=B8.trans (p _ (by omega));clear X H8 Z8 B8 y T9 p;go_wp2;exact⟨⟨k+1,n8,A8,c8,by omega,c9,a6,rfl,by go_num,b0.sl,H9,Z9,B9⟩,by simp[intOf];omega⟩
  ·have b7:k=8:=by omega
   subst b7;have H:SB wr d (rdS g l):=H;have d3:=H.ld;go_wp2_with (first
    |(refine Ec rfl _ _ rfl w.1.size rfl (rdS g l) Sp.zero rfl Z ?_;intro w9 H9 p T9)
    |fail)
   refine bodyPost_ret (q2r Tryz.results132 rfl (q4f H9)) rfl ?_;exact⟨rfl,hB.trans (p _ (Nat.le_refl _))⟩
end
section
def Dj (S:Sp)(slot:Int):Hd:=⟨1,slot,0,0,S.gen⟩
def Xq (S:Sp)(slot:Int):Bool:=S.may&&decide (0<=slot/\slot<=1)
def swE (S:Sp)(slot:Int):Int:=if Xq S slot=true then 0 else 1
def swB (S:Sp)(slot:Int):List UInt8:=if Xq S slot=true then Zr (Dj S slot) (Jg S) else []
theorem q12 {S:Sp}(h:S.may=true):(1<=S.gen/\S.gen<=1099511627775/\32<=S.Qb/\S.Qb<=2048/\0<=S.log/\S.log<=S.Qb-1)/\∀j,j<8->S.ok1 j=true:=by
 unfold Sp.may at h;rw[Bool.and_eq_true] at h;exact⟨of_decide_eq_true h.1,λj b=>List.all_eq_true.1 h.2 j (List.mem_range.2 b)⟩
theorem ql8 {s:ByteArray}(h:Dn s=true):1<=s.size/\s.size<=10:=by
 unfold Dn at h;rw[Bool.and_eq_true] at h;exact of_decide_eq_true h.2
theorem qh9 {S:Sp}{j:Nat}(h:S.ok1 j=true):S.at_ j=Vl.zero\/(Dn (S.at_ j).name=true/\(0<=(S.at_ j).root/\(S.at_ j).root<=S.Qb-1)/\(2<=(S.at_ j).next/\(S.at_ j).next<=2147483647)):=by
 unfold Sp.ok1 at h;rw[Bool.or_eq_true] at h;rcases h with h|h
 ·exact .inl ((Vl.same_iff _ _).1 h)
 ·rw[Bool.and_eq_true] at h;have h:=h.1;unfold Vl.ok at h;rw[Bool.and_eq_true,Bool.and_eq_true] at h;exact .inr ⟨h.1,of_decide_eq_true h.2.1,of_decide_eq_true h.2.2⟩
theorem q7d {S:Sp}(h:S.may=true):∀j,j<8->(S.at_ j).name.size<=10:=λj b=>by
 rcases qh9 ((q12 h).2 j b) with e|⟨h,_⟩
 ·rw[e];show 0<=10;omega
 ·exact (ql8 h).2
theorem qrp {S:Sp}{slot:Int}(h:Xq S slot=true):(Dj S slot).ok=true:=by
 unfold Xq at h;rw[Bool.and_eq_true] at h;have h1:=(q12 h.1).1;have h2:=of_decide_eq_true h.2;refine decide_eq_true ⟨⟨?_,?_⟩,⟨?_,?_⟩,⟨?_,?_⟩,⟨?_,?_⟩,?_,?_⟩<;>(dsimp only[Dj];omega)
theorem q7e {S:Sp}(h:S.may=true):(Jg S).length=148:=Xa S 8 (by omega) (q7d h)
theorem ql9 {S:Sp}{slot:Int}(h:Xq S slot=true):swE S slot=0/\swB S slot=Zr (Dj S slot) (Jg S)/\Xi (Dj S slot) (Jg S)=0/\Xo (Dj S slot) (Jg S)=Zr (Dj S slot) (Jg S):=by
 have hm:S.may=true:=by unfold Xq at h;rw[Bool.and_eq_true] at h;exact h.1
 have b:=q7e hm;unfold swE swB Xi Xo;rw[if_pos h,if_pos h,if_pos (qrp h),if_pos (by omega),if_pos (qrp h),if_pos (by omega)];exact⟨rfl,rfl,rfl,rfl⟩
theorem qx7 {S:Sp}{slot:Int}(h:Xq S slot=false):swE S slot=1/\swB S slot=[]:=by
 unfold swE swB;rw[h];exact⟨rfl,rfl⟩
attribute [local go_sem ↓] q1n q7c
theorem q8e (S:Sp)(slot:Int)(hf:S.fine)(w:World)(ht:Tab w) :
  Calls Tryz.prog 87 #[.agg S.vs.toArray,.int .i64 slot] w λe d=>
   ∃R n' T,e=.returned (.tuple #[.slice R n' T,.int .i64 (swE S slot)])/\Own d w.1.size 5 R n' T (swB S slot)/\(Xq S slot=true->∃g,R=some ⟨g,0,none⟩/\n'=256/\T=256)/\Below w.1.size w d:=by
 have F:=SB.new w S 98;have O:Below w.1.size w (w.alloc (.cells S.vs.toArray 98)):=Qm;have Q:=ht.below O ht.1;have I:=F.ld;obtain⟨m,hm⟩:∃m,S.may=m:=⟨_,rfl⟩;go_enter Tryz.func87,Tryz.ntmps87
 go_wp2_with fail
 generalize w.alloc (.cells S.vs.toArray 98)=w1 at F O I Q ⊢;refine (ql6 S m hm hf w1).mono ?_;rintro e b ⟨rfl,y⟩;have G:=F.below y F.lt;have E:=O.trans (y.mono O.size);have t2:=Q.below y Q.1;have a6:=G.ld;have q2:=G.c0;clear F I y Q
 cases m
 ·obtain⟨h1,h2⟩:=qx7 (S:=S) (slot:=slot) (by unfold Xq;rw[hm];rfl);have A:Xq S slot=false:=by unfold Xq;rw[hm];rfl
  go_wp2;go_ret2;rw[h1,h2,A];exact⟨_,_,_,rfl,q55 _ _ _,λh=>(by cases h),E⟩
 ·go_wp2_with fail
  by_cases u:0<=slot/\slot<=1
  ·have B:Xq S slot=true:=by unfold Xq;rw[hm,decide_eq_true u];rfl
   obtain⟨h1,h2,h3,h4⟩:=ql9 B;have U:=Lib.hid h1;have W:=Lib.hid h2;have a8:=Lib.hid B;refine (P7 slot 0 1 true (decide_eq_true u) _).mono ?_;rintro e M ⟨rfl,rfl⟩;go_wp2_with fail
   have X:∀d:World,Below b.1.size b d->d.cell? ⟨w.1.size,0,none⟩=some (.int .i64 S.gen)/\(ldS (.pointer (some ⟨w.1.size,0,none⟩))).run Tryz.prog d=.ok (.agg S.vs.toArray) d/\Below b.1.size b d:=
    λd Y=>⟨(Y.cell (p:=⟨w.1.size,0,none⟩) G.lt).trans q2,(G.below Y G.lt).ld,Y⟩
   have BD:Below b.1.size b b.drew:=(Below.refl _ _).drew;have zd:b.1.size<=b.drew.1.size:=Nat.le_refl _;have a7:=q7d hm;clear u h1 h2 a6 B;go_region_held3 (λd=>d.cell? ⟨w.1.size,0,none⟩=some (.int .i64 S.gen)/\(ldS (.pointer (some ⟨w.1.size,0,none⟩))).run Tryz.prog d=.ok (.agg S.vs.toArray) d/\Below b.1.size b d)
    (first|assumption|exact X _ BD|exact X _ f|exact X _ H)
    (first
     |(go_at_call 127;refine (qro S a7 _).mono ?_;rintro e M ⟨A3,n3,c3,rfl,D,Z⟩;have J:Own M b.1.size 5 A3 n3 c3 _:=D;have f:Below b.1.size b M:=BD.trans (Z.mono zd))
     |(go_at_call 84;refine (q5u (Dj S slot) A3 n3 c3 _ M J.sl (t2.below f t2.1)).mono ?_;rw[h3,h4];rintro e w4 ⟨A4,n4,c4,rfl,K,a2,a1⟩;have H:Below b.1.size b w4:=f.trans (a1.mono (Below.size f)))
     |fail)
   go_wp2;go_ret2;rw[U.out,W.out];exact⟨_,_,_,rfl,(K.less (Below.size f)).less E.size,λ_=>a2 (by first|trivial|rfl),E.trans (H.mono E.size)⟩
  ·have A:Xq S slot=false:=by unfold Xq;rw[hm,decide_eq_false u];rfl
   obtain⟨h1,h2⟩:=qx7 A;refine (P7 slot 0 1 false (decide_eq_false u) _).mono ?_;rintro e M ⟨rfl,rfl⟩;go_wp2;go_ret2;rw[h1,h2,A];exact⟨_,_,_,rfl,q55 _ _ _,λh=>(by cases h),E⟩
end
