/- Counts as plain data; the reference's counts as they lie; its Get, Ref, Unref, Fresh, Firs -/
import Derived.Test.YthkfkhejjmhomaaGreatDoorDb3
import Derived.Test.YthkfkhejjmhomaaGreatDoorDb4
import Derived.Deep.RegionHeld3
namespace Go.Proofs.YthkfkhejjmhomaaGreatDoor
open Go Go.RowKit Go.Proofs
set_option maxHeartbeats 4000000
set_option maxRecDepth 10000
def cv (x:Int):Value:=.int .i64 x
theorem qyo (l:List Int):∀u∈l.map cv,u.oneCell'=true:=by
 intro u d;obtain⟨_,_,rfl⟩:=List.mem_map.1 d;rfl
def nm (l:List Int)(k:Nat):Int:=l.getD k 0
theorem q5q (l:List Int)(k:Nat)(x:Int)(h:k<l.length):nm (l.set k x) k=x:=by simp[nm,h]
theorem q4a (l:List Int)(k j:Nat)(x:Int)(h:k≠j):nm (l.set k x) j=nm l j:=by simp[nm,h]
structure Ct where
 now:List Int
 done:List Int
 same:done.length=now.length
def Ct.n (C:Ct):Nat:=C.now.length
def Ct.first (C:Ct):Nat:=2+2*Qh C.n
def Ct.get (C:Ct)(a:Int):Int:=if 0<=a/\a<(C.n:Int) then nm C.now a.toNat else 0
def Ct.put (C:Ct)(k:Nat)(x:Int):Ct:=⟨C.now.set k x,C.done,by rw[List.length_set];exact C.same⟩
def Ct.Y4 (C:Ct)(a:Int):Int:=if C.get a=0 then 1 else if C.get a=65535 then 7 else 0
def Ct.ref (C:Ct)(a:Int):Ct:=if C.Y4 a=0 then C.put a.toNat (C.get a+1) else C
def Ct.Jm (C:Ct)(a:Int):Int:=if C.get a=0 then 1 else 0
def Ct.Ju (C:Ct)(a:Int):Int:=if C.get a=0 then 0 else C.get a-1
def Ct.Qq (C:Ct)(a:Int):Ct:=if C.get a=0 then C else C.put a.toNat (C.get a-1)
def Ct.fresh (C:Ct)(a:Int):Bool:=if C.get a=0 then false else decide (nm C.done a.toNat=0)
def Ct.G6 (C:Ct)(k:Nat):Bool:=decide (nm C.now k=0/\nm C.done k=0)
def Ct.commit (C:Ct):Ct:=⟨C.now,C.now,rfl⟩
def Ct.ok (C:Ct):Prop:=(32<=C.n/\C.n<=2048)/\∀k,k<C.n->0<=nm C.now k/\nm C.now k<=65535
theorem Ct.Zv {C:Ct}(h:C.ok)(a:Int):0<=C.get a/\C.get a<=65535:=by
 unfold Ct.get;split
 ·exact h.2 _ (by omega)
 ·omega
theorem Ct.Eo {C:Ct}{a:Int}(h:¬C.get a=0):0<=a/\a<(C.n:Int)/\C.get a=nm C.now a.toNat:=by
 unfold Ct.get at h ⊢;split at h
 ·rename_i h2;rw[if_pos h2];exact⟨h2.1,h2.2,rfl⟩
 ·exact absurd rfl h
theorem Ct.Zh (C:Ct)(k:Nat)(x:Int):(C.put k x).n=C.n:=List.length_set
theorem Ct.Ci {C:Ct}(h:C.ok)(k:Nat)(x:Int)(h1:0<=x)(h2:x<=65535):(C.put k x).ok:=by
 refine⟨by rw[C.Zh];exact h.1,λj d=>?_⟩;rw[C.Zh] at d;show 0<=nm (C.now.set k x) j/\nm (C.now.set k x) j<=65535;by_cases f:k=j
 ·subst f;rw[q5q _ _ _ d];exact⟨h1,h2⟩
 ·rw[q4a _ _ _ _ f];exact h.2 j d
theorem Ct.Oi {C:Ct}(h:C.ok):C.commit.ok:=h
def Jt (w:World)(g n c:Nat)(l:List Int):Prop:=w.ownsRow 0 3 1 (.slice (some ⟨g,0,none⟩) n c) n (l.map cv)
section
variable {w w':World}{g n c:Nat}{l:List Int}
theorem Jt.len (h:Jt w g n c l):l.length=n:=by have:=h.1;simpa using this
theorem Jt.cap (h:Jt w g n c l):n<=c/\c<=maxLen:=by
 rcases h.2 with⟨d,_⟩|⟨y,cap,m,d,_,_,h1,h2,_⟩
 ·injection d with f;cases f
 ·injection d with f p u;omega
theorem Jt.lt (h:Jt w g n c l):g<w.1.size:=by
 rcases h.2 with⟨f,_⟩|⟨u,cap,m,f,_,p,_⟩
 ·injection f with d;cases d
 ·injection f with d;injection d with d;injection d with d;subst d;exact (Array.getElem?_eq_some_iff.1 p).1
theorem Jt.keep (h:Jt w g n c l)(hk:w'.1[g]?=w.1[g]?):Jt w' g n c l:=q2o h λq d=>by
 have:q=g:=by
  have:(Value.slice (some ⟨g,0,none⟩) n c).ownBlock=some g:=rfl;rw[this] at d;exact (Option.some.inj d).symm
 rw[this];exact hk
theorem Jt.at_ (h:Jt w g n c l){j:Nat}(hj:j<n):w.cell? ⟨g,j,none⟩=some (.int .i64 (nm l j))/\w.frozen? ⟨g,j,none⟩=false:=by
 have d:=h.len;refine⟨?_,World.ownsRow.frozenAt h j⟩;rw[World.ownsRow.cellAt h j (by omega),List.getElem?_map,List.getElem?_eq_getElem (by omega)];unfold nm;rw[List.getD_eq_getElem?_getD,List.getElem?_eq_getElem (by omega)];rfl
theorem Jt.Af (h:Jt w g n c l)(j:Nat)(x:Int):Jt (w.setCell ⟨g,j,none⟩ (.int .i64 x)) g n c (l.set j x):=by
 unfold Jt;rw[List.map_set];exact (World.ownsRow.stored h j (cv x)).1
end
def RC (w:World)(p:Nat)(S:Nat->Prop)(C:Ct):Prop:=∃(a d b f:Nat) (t:TypeId),w.1[p]?=some (.cells #[.slice (some ⟨a,0,none⟩) C.n d,.slice (some ⟨b,0,none⟩) C.n f] t (0,0))/\Jt w a C.n d C.now/\Jt w b C.n f C.done/\(a≠b/\p≠a/\p≠b)/\(S p/\S a/\S b)/\C.ok
theorem RC.ok {w:World}{p:Nat}{S:Nat->Prop}{C:Ct}(h:RC w p S C):C.ok:=by
 obtain⟨_,_,_,_,_,_,_,_,_,_,h⟩:=h;exact h
theorem RC.lt {w:World}{p:Nat}{S:Nat->Prop}{C:Ct}(h:RC w p S C):p<w.1.size:=by
 obtain⟨_,_,_,_,_,h,_⟩:=h;exact (Array.getElem?_eq_some_iff.1 h).1
theorem RC.keep {w w':World}{p:Nat}{S:Nat->Prop}{C:Ct}(h:RC w p S C)(hk:∀k,k<w.1.size->S k->w'.1[k]?=w.1[k]?):RC w' p S C:=by
 obtain⟨a,m,b,u,t,h1,h2,f,y,d,A⟩:=h;exact⟨a,m,b,u,t,(hk p (Array.getElem?_eq_some_iff.1 h1).1 d.1).trans h1,h2.keep (hk a h2.lt d.2.1),f.keep (hk b f.lt d.2.2),y,d,A⟩
theorem RC.mono {w:World}{p:Nat}{S S':Nat->Prop}{C:Ct}(h:RC w p S C)(hs:∀k,S k->S' k):RC w p S' C:=by
 obtain⟨a,f,b,m,t,h1,h2,u,y,d,A⟩:=h;exact⟨a,f,b,m,t,h1,h2,u,y,⟨hs _ d.1,hs _ d.2.1,hs _ d.2.2⟩,A⟩
theorem RC.below {w w':World}{p:Nat}{S:Nat->Prop}{C:Ct}(h:RC w p S C)(hb:Below w.1.size w w'):RC w' p S C:=h.keep λk d _=>hb.block k d
def Ct.may (C:Ct)(j:Nat):Bool:=decide (C.first<=j)&&C.G6 j
def Ct.pick (C:Ct):Option Nat:=(List.range C.n).find? C.may
def Ct.U3 (C:Ct):Int:=match C.pick with|some _=>0|none=>6
def Ct.U4 (C:Ct):Int:=match C.pick with|some k=>(k:Int)|none=>0
def Ct.alloc (C:Ct):Ct:=match C.pick with|some k=>C.put k 1|none=>C
def Ct.Xh (C:Ct)(k:Nat):Nat:=(List.range k).countP C.may
def Ct.free (C:Ct):Nat:=C.Xh C.n
theorem Ct.Ov {C:Ct}{k:Nat}(hk:k<C.n)(h:C.may k=true)(hall:∀j,j<k->C.may j=false):C.pick=some k:=by
 unfold Ct.pick;rw[List.find?_range_eq_some];exact⟨h,List.mem_range.2 hk,λj d=>by rw[hall j d];rfl⟩
theorem Ct.Ou {C:Ct}(hall:∀j,j<C.n->C.may j=false):C.pick=none:=by
 unfold Ct.pick;rw[List.find?_eq_none];intro j d;rw[hall j (List.mem_range.1 d)];simp
theorem Ct.Xo {C:Ct}{k:Nat}(h:C.pick=some k):C.U3=0/\C.U4=(k:Int)/\C.alloc=C.put k 1:=by
 unfold Ct.U3 Ct.U4 Ct.alloc;rw[h];exact⟨rfl,rfl,rfl⟩
theorem Ct.Vh {C:Ct}(h:C.pick=none):C.U3=6/\C.U4=0/\C.alloc=C:=by
 unfold Ct.U3 Ct.U4 Ct.alloc;rw[h];exact⟨rfl,rfl,rfl⟩
theorem Ct.Uh (C:Ct)(k:Nat):C.Xh (k+1)=C.Xh k+(if C.may k=true then 1 else 0):=by
 unfold Ct.Xh;rw[List.range_succ,List.countP_append,List.countP_singleton]
theorem Ct.Oo (C:Ct)(k:Nat):C.Xh k<=k:=by
 unfold Ct.Xh;have:=List.countP_le_length (p:=C.may) (l:=List.range k);rwa [List.length_range] at this
structure Qa1 (P:Program)(t e:TypeId):Prop where
 sl:P.underlying t=some (.slice e)
 info:(P.info? e).map (λi=>(i.zero,i.size,i.bytes))=some (some (.int .i64 0),1,8)
theorem TN:Qa1 Tryz.prog 67 3:=⟨Tryz.underlying67,by kernel_rfl⟩
section
variable {P:Program}{t e:TypeId}(w:World)
theorem q8o (T:Qa1 P t e)(ty:TypeId)(g:Nat)(B:Addr)(m d:Nat)(A:List Int)(I:A.length=m)(f:∀(j:Nat) u,(A.map cv)[j]?=some u->w.cell? (B.add j)=some u)(h0:0<m)(hm:m<=1000000) :
  ∃H w',(Builtin.append_ #[t,t] ty #[.slice (some ⟨g,0,none⟩) 0 0,.slice (some B) m d]).run P w=.ok (.slice (some ⟨w.1.size,0,none⟩) m H) w'/\w'.ownsRow w.1.size e 1 (.slice (some ⟨w.1.size,0,none⟩) m H) m (A.map cv)/\Below w.1.size w w':=by
 obtain⟨i,hi,E,F,G⟩:=info_parts T.info;have y:(A.map cv).length=m:=by simpa using I
 have p:=run_append_grow (P:=P) w t ty e i _ T.sl hi E ⟨g,0,none⟩ 0 0 [] (by simp) (by simp) B m d (A.map cv) (by rw[F,y];omega) f (by omega) (by omega) (growslice_fits (by omega) (by rw[G];omega));rw[Nat.zero_add] at p;have D:=grownCap_ge w m 0 e;refine⟨_,_,p,⟨by rw[y];omega,.inr ⟨w.1.size,_,_,rfl,Nat.le_refl _,heap_alloc_new w.drew _,D,grownCap_le_maxLen w m 0 e (by unfold maxLen;omega),?_,?_⟩⟩,(Below.refl _ _).drew.alloc (Nat.le_refl _) _⟩
 ·simp only[Array.size_append,List.size_toArray,size_zeroCells,List.length_nil,y,show (Value.int .i64 0).cells.size=1 from rfl];omega
 ·simp only[Array.toList_append,List.nil_append];rw[List.take_append_of_le_length (by simp;omega)];simp[List.take_of_length_le,I]
theorem q9k (T:Qa1 P t e){A:Array Oper}{p:List Oper}{o:Oper}{a:Act}{Q:Exit->Act->World->Prop}(F:o.guard=none)(s x:Operand)
  (J:o.op=.call { callee:=.builtin .append,args:=#[s,x],argTypes:=#[t,t] }) (g:Nat) (M:a.eval s=.slice (some ⟨g,0,none⟩) 0 0) (E:Addr) (m d:Nat) (O:a.eval x=.slice (some E) m d)
  (D:List Int) (I:D.length=m) (f:∀(j:Nat) u,(D.map cv)[j]?=some u->w.cell? (E.add j)=some u) (h0:0<m) (hm:m<=1000000)
  (h:∀B w',w'.ownsRow w.1.size e 1 (.slice (some ⟨w.1.size,0,none⟩) m B) m (D.map cv)->Below w.1.size w w'->wpList P A Q p (a.put o.dst (.slice (some ⟨w.1.size,0,none⟩) m B)) w'):wpList P A Q (o::p) a w:=
 wpList_plain F λK H=>by
  obtain⟨B,w',y,h2,G⟩:=q8o (P:=P) w T o.type g E m d D I f h0 hm;unfold Oper.wp execOp;simp only[J,resolve,invoke,builtin,Sem.run_bind,Sem.run_pure,Result.andThen_ok,List.map_toArray,List.map_cons,List.map_nil,M,O,y];exact H _ _ (h B w' h2 G)
end
theorem Jt.cells {w:World}{g n c:Nat}{l:List Int}(h:Jt w g n c l):∀(j:Nat) u,(l.map cv)[j]?=some u->w.cell? ((⟨g,0,none⟩:Addr).add j)=some u:=λj u d=>by
 have f:j<n:=by have:=(List.getElem?_eq_some_iff.1 d).1;rw[List.length_map,h.len] at this;exact this
 rw[Addr.add_mid,Nat.zero_add,World.ownsRow.cellAt h j (by omega),d]
def Ct.zero (n:Nat):Ct:=⟨List.replicate n 0,List.replicate n 0,rfl⟩
theorem Ct.Zd (n:Nat):(Ct.zero n).n=n:=List.length_replicate
theorem Ct.Bg {n:Nat}(h1:32<=n)(h2:n<=2048):(Ct.zero n).ok:=by
 refine⟨by rw[Ct.Zd];exact⟨h1,h2⟩,λk d=>?_⟩;rw[Ct.Zd] at d;show 0<=nm (List.replicate n 0) k/\nm (List.replicate n 0) k<=65535;unfold nm;simp[d]
section
variable {P:Program}{t e:TypeId}(w:World)
theorem qsu (n:Nat):(madeCells (Value.int .i64 0).cells (n*1)).toList=(List.replicate n (0:Int)).map cv:=by
 rw[show (Value.int .i64 0).cells=#[.int .i64 0] from rfl,Nat.mul_one,toList_madeCells_one];simp[cv]
end
def Yj (w:World)(p o:Nat)(S:Nat->Prop)(C:Ct):Prop:=∃(a f b m:Nat) (t:TypeId) (d:Array Value),w.1[p]?=some (.cells d t (0,0))/\(d[o]?=some (.slice (some ⟨a,0,none⟩) C.n f)/\d[o+1]?=some (.slice (some ⟨b,0,none⟩) C.n m)/\d[o+2]?=some (.int .i64 (Qh C.n:Int))/\d[o+3]?=some (.int .i64 (C.first:Int)))/\Jt w a C.n f C.now/\Jt w b C.n m C.done/\(a≠b/\p≠a/\p≠b)/\(S a/\S b)/\C.ok
theorem Fb {w:World}{p k:Nat}{d:Array Value}{t:TypeId}{v:Value}(h:w.1[p]?=some (.cells d t (0,0)))(f:d[k]?=some v):w.cell? ⟨p,k,none⟩=some v:=by rw[cell_of_row _ _ _ _ _ _ h];exact f
theorem Yj.ok {w:World}{p o:Nat}{S:Nat->Prop}{C:Ct}(h:Yj w p o S C):C.ok:=by
 obtain⟨_,_,_,_,_,_,_,_,_,_,_,_,h⟩:=h;exact h
theorem Yj.lt {w:World}{p o:Nat}{S:Nat->Prop}{C:Ct}(h:Yj w p o S C):p<w.1.size:=by
 obtain⟨_,_,_,_,_,_,h,_⟩:=h;exact (Array.getElem?_eq_some_iff.1 h).1
theorem Yj.keep {w w':World}{p o:Nat}{S:Nat->Prop}{C:Ct}(h:Yj w p o S C)(hp:w'.1[p]?=w.1[p]?)(hk:∀k,k<w.1.size->S k->w'.1[k]?=w.1[k]?):Yj w' p o S C:=by
 obtain⟨a,u,b,y,t,d,h1,D,h2,m,A,f,B⟩:=h;exact⟨a,u,b,y,t,d,hp.trans h1,D,h2.keep (hk a h2.lt f.1),m.keep (hk b m.lt f.2),A,f,B⟩
theorem Yj.mono {w:World}{p o:Nat}{S S':Nat->Prop}{C:Ct}(h:Yj w p o S C)(hs:∀k,S k->S' k):Yj w p o S' C:=by
 obtain⟨a,m,b,u,t,d,h1,D,h2,y,A,f,B⟩:=h;exact⟨a,m,b,u,t,d,h1,D,h2,y,A,⟨hs _ f.1,hs _ f.2⟩,B⟩
theorem Yj.below {w w':World}{p o:Nat}{S:Nat->Prop}{C:Ct}(h:Yj w p o S C)(hb:Below w.1.size w w'):Yj w' p o S C:=h.keep (hb.block p h.lt) λk d _=>hb.block k d
theorem Yj.shrink {w:World}{p o:Nat}{S:Nat->Prop}{C:Ct}(h:Yj w p o S C):Yj w p o (λk=>S k/\k<w.1.size) C:=by
 obtain⟨a,u,b,y,t,d,h1,D,h2,f,A,m,B⟩:=h;exact⟨a,u,b,y,t,d,h1,D,h2,f,A,⟨⟨m.1,h2.lt⟩,⟨m.2,f.lt⟩⟩,B⟩
theorem Yj.around {w w':World}{p o p' o':Nat}{S:Nat->Prop}{C:Ct}{cur cur':Array Value}{t t':TypeId}(h:Yj w p o S C)(hp:w.1[p]?=some (.cells cur t (0,0)))(hp':w'.1[p']?=some (.cells cur' t' (0,0)))
  (hc:∀j,j<4->cur'[o'+j]?=cur[o+j]?) (hne:∀k,S k->p'≠k) (hk:∀k,k<w.1.size->S k->w'.1[k]?=w.1[k]?):Yj w' p' o' S C:=by
 obtain⟨a,y,b,A,t,m,h1,f,h2,u,B,d,D⟩:=h;rw[hp] at h1;injection h1 with h1;injection h1 with h1 _ _;subst h1;exact⟨a,y,b,A,t',cur',hp',⟨(hc 0 (by omega)).trans f.1,(hc 1 (by omega)).trans f.2.1,(hc 2 (by omega)).trans f.2.2.1,(hc 3 (by omega)).trans f.2.2.2⟩,h2.keep (hk a h2.lt d.1),u.keep (hk b u.lt d.2),⟨B.1,hne a d.1,hne b d.2⟩,d,D⟩
theorem Yj.open_ {w:World}{p o:Nat}{S:Nat->Prop}{C:Ct}(H:Yj w p o S C):∃g d b f:Nat,w.cell? ⟨p,o,none⟩=some (.slice (some ⟨g,0,none⟩) C.n d)/\w.cell? ⟨p,o+1,none⟩=some (.slice (some ⟨b,0,none⟩) C.n f)/\w.cell? ⟨p,o+2,none⟩=some (.int .i64 (Qh C.n:Int))/\w.cell? ⟨p,o+3,none⟩=some (.int .i64 (C.first:Int))/\
  (C.n<=d/\d<=9223372036854775807)/\(C.n<=f/\f<=9223372036854775807)/\(∀k,k<C.n->w.cell? ⟨g,k,none⟩=some (.int .i64 (nm C.now k))/\w.frozen? ⟨g,k,none⟩=false)/\(∀k,k<C.n->w.cell? ⟨b,k,none⟩=some (.int .i64 (nm C.done k)))/\
  (∀(k:Nat) (x:Int),k<C.n->0<=x->x<=65535->Yj (w.setCell ⟨g,k,none⟩ (.int .i64 x)) p o S (C.put k x)/\Turn S w (w.setCell ⟨g,k,none⟩ (.int .i64 x))/\(w.setCell ⟨g,k,none⟩ (.int .i64 x)).cell? ⟨p,o,none⟩=some (.slice (some ⟨g,0,none⟩) C.n d)/\(w.setCell ⟨g,k,none⟩ (.int .i64 x)).cell? ⟨g,k,none⟩=some (.int .i64 x)):=by
 obtain⟨g,d,b,f,t,u,h1,⟨E,M,O,Q⟩,h2,y,A,F,R⟩:=H;have J:=h2.cap;have K:=y.cap;unfold maxLen at J K;refine⟨g,d,b,f,Fb h1 E,Fb h1 M,Fb h1 O,Fb h1 Q,⟨J.1,by omega⟩,⟨K.1,by omega⟩,λk m=>h2.at_ m,λk m=>(y.at_ m).1,λk x m B D=>?_⟩;have e:∀j,j≠g->(w.setCell ⟨g,k,none⟩ (.int .i64 x)).1[j]?=w.1[j]?:=λj U=>Below.heap_setCell _ _ _ _ (by show j≠g;exact U)
 have I:=(e p A.2.1).trans h1;have G:=h2.Af k x;have T:(C.put k x).first=C.first:=by unfold Ct.first;rw[C.Zh]
 refine⟨⟨g,d,b,f,t,u,I,?_,?_,?_,A,F,C.Ci R k x B D⟩,Ac (a:=⟨g,k,none⟩) _ F.1,Fb I E,?_⟩
 ·rw[C.Zh,T];exact⟨E,M,O,Q⟩
 ·rw[C.Zh];exact G
 ·rw[C.Zh];exact y.keep (e b (Ne.symm A.1))
 ·have:=(G.at_ m).1;rw[q5q _ _ _ (by rw[h2.len];exact m)] at this;exact this
theorem q2c {w:World}{p o:Nat}{S:Nat->Prop}{C:Ct}(H:Yj w p o S C)(a x:Int)(A:C.get a=x) :
  Calls Tryz.prog 85 #[.pointer (some ⟨p,o,none⟩),.int .i64 a] w λe w'=>e=.returned (.int .i64 x)/\w=w':=by
 obtain⟨g,G,b,F,c0,c1,c2,c3,K,M,f,m,y⟩:=H.open_;have u:=Lib.hid f;clear f m y c1 c2 c3;by_cases h0:0<=a
 ·obtain⟨k,rfl⟩:=Int.eq_ofNat_of_zero_le h0;by_cases E:k<C.n
  ·have d:=Lib.hid (show x=nm C.now k by rw[<-A];unfold Ct.get;rw[if_pos (by omega)];rfl);obtain⟨J,_⟩:=u.out k E;have B:¬(k:Int)<0:=by omega
   have D:¬(C.n:Int)<=(k:Int):=by omega
   have I:(k:Int)<(C.n:Int):=by omega
   go_enter Tryz.func85,Tryz.ntmps85
   go_wp2;go_ret;exact⟨by rw[d.out];rfl,rfl⟩
  ·have d:=Lib.hid (show x=0 by rw[<-A];unfold Ct.get;rw[if_neg (by omega)]);have B:¬(k:Int)<0:=by omega
   have D:(C.n:Int)<=(k:Int):=by omega
   go_enter Tryz.func85,Tryz.ntmps85
   go_wp2;go_ret;exact⟨by rw[d.out];rfl,rfl⟩
 ·have d:=Lib.hid (show x=0 by rw[<-A];unfold Ct.get;rw[if_neg (by omega)]);have B:a<0:=by omega
  go_enter Tryz.func85,Tryz.ntmps85
  go_wp2;go_ret;exact⟨by rw[d.out];rfl,rfl⟩
def Ct.counted (C:Ct)(a:Nat):Bool:=decide (C.first<=a/\a<C.n)
theorem q21 {w:World}{p o:Nat}{S:Nat->Prop}{C:Ct}(H:Yj w p o S C)(a:Nat)(r:Bool)(E:C.counted a=r) :
  Calls Tryz.prog 192 #[.pointer (some ⟨p,o,none⟩),.int .i64 (a:Int)] w λe w'=>e=.returned (.bool r)/\w=w':=by
 obtain⟨g,I,b,G,c0,c1,c2,c3,J,K,y,d,A⟩:=H.open_;clear y d A c1 c2;obtain⟨f,B⟩:∃f,C.first=f:=⟨_,rfl⟩
 have m:=Lib.hid (show r=decide (f<=a/\a<C.n) by rw[<-E,<-B];rfl);rw[B] at c3;clear B E;by_cases h1:f<=a
 ·by_cases h2:a<C.n
  ·have u:=Lib.hid (show r=true by rw[m.out];exact decide_eq_true ⟨h1,h2⟩);have D:(f:Int)<=(a:Int):=by omega
   have F:(a:Int)<(C.n:Int):=by omega
   go_enter Tryz.func192,Tryz.ntmps192
   go_wp2;go_ret;exact⟨by rw[u.out];rfl,rfl⟩
  ·have u:=Lib.hid (show r=false by rw[m.out];exact decide_eq_false λh=>h2 h.2);have D:(f:Int)<=(a:Int):=by omega
   have F:¬(a:Int)<(C.n:Int):=by omega
   go_enter Tryz.func192,Tryz.ntmps192
   go_wp2;go_ret;exact⟨by rw[u.out];rfl,rfl⟩
 ·have u:=Lib.hid (show r=false by rw[m.out];exact decide_eq_false λh=>h1 h.1);have D:¬(f:Int)<=(a:Int):=by omega
  go_enter Tryz.func192,Tryz.ntmps192
  go_wp2;go_ret;exact⟨by rw[u.out];rfl,rfl⟩
theorem qes {w:World}{p o:Nat}{S:Nat->Prop}{C:Ct}(H:Yj w p o S C)(k:Nat)(B:k<C.n)(r:Bool)(F:C.may k=r) :
  Calls Tryz.prog 111 #[.pointer (some ⟨p,o,none⟩),.int .i64 (k:Int)] w λe w'=>e=.returned (.bool r)/\w=w':=by
 obtain⟨g,K,b,J,c0,c1,c2,c3,R,T,u,d,A⟩:=H.open_;obtain⟨I,_⟩:=u k B;have hd:=d k B;clear u d A c2 c3;obtain⟨x,D⟩:∃x,nm C.now k=x:=⟨_,rfl⟩;obtain⟨y,E⟩:∃y,nm C.done k=y:=⟨_,rfl⟩;have hm:=Lib.hid (show r=(decide (C.first<=k)&&decide (x=0/\y=0)) by rw[<-F,<-D,<-E];rfl);rw[D] at I;rw[E] at hd;clear D E F;have M:(k:Int)<(C.n:Int):=by omega
 have O:¬(C.n:Int)<=(k:Int):=by omega
 by_cases h1:C.first<=k
 ·have f:=Lib.hid (show C.counted k=true from decide_eq_true ⟨h1,B⟩);have hm:=Lib.hid (show r=decide (x=0/\y=0) by rw[hm.out,decide_eq_true h1,Bool.true_and]);clear h1;by_cases m:x=0
  ·have hm:=Lib.hid (show r=decide (y=0) by rw[hm.out];simp[m]);subst m;go_enter Tryz.func111,Tryz.ntmps111
   go_wp2_with fail
   refine (q21 H k true f.out).mono ?_;rintro e G ⟨rfl,rfl⟩;go_wp2;go_ret;exact⟨by rw[hm.out];first|rfl|(refine congrArg (λx=>Ending.returned (Value.bool x)) ?_;rw[Bool.eq_iff_iff];simp),rfl⟩
  ·have hm:=Lib.hid (show r=false by rw[hm.out];exact decide_eq_false λh=>m h.1);have Q:(x==0)=false:=by simpa using m
   go_enter Tryz.func111,Tryz.ntmps111
   go_wp2_with fail
   refine (q21 H k true f.out).mono ?_;rintro e G ⟨rfl,rfl⟩;go_wp2;go_ret;exact⟨by rw[hm.out];rfl,rfl⟩
 ·have f:=Lib.hid (show C.counted k=false from decide_eq_false λh=>h1 h.1);have hm:=Lib.hid (show r=false by rw[hm.out,decide_eq_false h1,Bool.false_and]);clear h1;go_enter Tryz.func111,Tryz.ntmps111
  go_wp2_with fail
  refine (q21 H k false f.out).mono ?_;rintro e G ⟨rfl,rfl⟩;go_wp2;go_ret;exact⟨by rw[hm.out];rfl,rfl⟩
theorem qsv {w:World}{p o:Nat}{S:Nat->Prop}{C:Ct}(H:Yj w p o S C)(a:Int) :
  Calls Tryz.prog 123 #[.pointer (some ⟨p,o,none⟩),.int .i64 a] w λe w'=>e=.returned (.int .i64 (C.Y4 a))/\Yj w' p o S (C.ref a)/\Turn S w w':=by
 obtain⟨x,d⟩:∃x,C.get a=x:=⟨_,rfl⟩;have K:=C.Zv H.ok a;rw[d] at K;by_cases h0:x=0
 ·have f:C.Y4 a=1:=by unfold Ct.Y4;rw[d,if_pos h0]
  have A:C.ref a=C:=by unfold Ct.ref;rw[f,if_neg (by decide)]
  rw[f,A];subst h0;go_enter Tryz.func123,Tryz.ntmps123
  go_wp2_with fail
  refine (q2c H a 0 d).mono ?_;rintro e F ⟨rfl,rfl⟩;go_wp2;go_ret;exact⟨rfl,H,Turn.refl _ _⟩
 ·by_cases h1:x=65535
  ·have f:C.Y4 a=7:=by unfold Ct.Y4;rw[d,if_neg h0,if_pos h1]
   have A:C.ref a=C:=by unfold Ct.ref;rw[f,if_neg (by decide)]
   rw[f,A];subst h1;go_enter Tryz.func123,Tryz.ntmps123
   go_wp2_with fail
   refine (q2c H a 65535 d).mono ?_;rintro e F ⟨rfl,rfl⟩;go_wp2;go_ret;exact⟨rfl,H,Turn.refl _ _⟩
  ·have f:C.Y4 a=0:=by unfold Ct.Y4;rw[d,if_neg h0,if_neg h1]
   have A:C.ref a=C.put a.toNat (x+1):=by unfold Ct.ref;rw[f,if_pos rfl,d]
   have E:=Lib.hid f;have D:=Lib.hid A;obtain⟨Q,X,B⟩:=Ct.Eo (C:=C) (a:=a) (by rw[d];exact h0);obtain⟨k,rfl⟩:=Int.eq_ofNat_of_zero_le Q;rw[Int.toNat_natCast] at B;rw[d] at B;obtain⟨g,T,b,R,c0,c1,c2,c3,Y,Z,m,y,u⟩:=H.open_;obtain⟨M,O⟩:=m k (by omega);rw[<-B] at M;obtain⟨G,J,U,W⟩:=u k (x+1) (by omega) (by omega) (by omega);have I:=Lib.hid d;have j1:¬(C.n:Int)<=(k:Int):=by omega
   clear f A B m y u;go_enter Tryz.func123,Tryz.ntmps123
   go_wp2_with fail
   refine (q2c H k x I.out).mono ?_;rintro e F ⟨rfl,rfl⟩;go_wp2;go_ret;rw[E.out,D.out];exact⟨rfl,G,J⟩
theorem qlg {w:World}{p o:Nat}{S:Nat->Prop}{C:Ct}(H:Yj w p o S C)(a:Int) :
  Calls Tryz.prog 219 #[.pointer (some ⟨p,o,none⟩),.int .i64 a] w λe w'=>e=.returned (.tuple #[.int .i64 (C.Ju a),.int .i64 (C.Jm a)])/\Yj w' p o S (C.Qq a)/\Turn S w w':=by
 obtain⟨x,y⟩:∃x,C.get a=x:=⟨_,rfl⟩;have G:=C.Zv H.ok a;rw[y] at G;by_cases h0:x=0
 ·have A:C.Jm a=1/\C.Ju a=0/\C.Qq a=C:=by unfold Ct.Jm Ct.Ju Ct.Qq;rw[y,if_pos h0,if_pos h0,if_pos h0];exact⟨rfl,rfl,rfl⟩
  rw[A.1,A.2.1,A.2.2];subst h0;go_enter Tryz.func219,Tryz.ntmps219
  go_wp2_with fail
  refine (q2c H a 0 y).mono ?_;rintro e M ⟨rfl,rfl⟩;go_wp2;go_ret2;exact⟨rfl,H,Turn.refl _ _⟩
 ·have A:C.Jm a=0/\C.Ju a=x-1/\C.Qq a=C.put a.toNat (x-1):=by unfold Ct.Jm Ct.Ju Ct.Qq;rw[y,if_neg h0,if_neg h0,if_neg h0];exact⟨rfl,rfl,rfl⟩
  have m:=Lib.hid A;obtain⟨K,U,B⟩:=Ct.Eo (C:=C) (a:=a) (by rw[y];exact h0);obtain⟨k,rfl⟩:=Int.eq_ofNat_of_zero_le K;rw[Int.toNat_natCast] at B;rw[y] at B;obtain⟨g,Q,b,O,c0,c1,c2,c3,W,X,d,u,f⟩:=H.open_;obtain⟨I,J⟩:=d k (by omega);rw[<-B] at I;obtain⟨D,F,R,T⟩:=f k (x-1) (by omega) (by omega) (by omega);have E:=Lib.hid y;have j1:¬(C.n:Int)<=(k:Int):=by omega
  clear A B d u f;go_enter Tryz.func219,Tryz.ntmps219
  go_wp2_with fail
  refine (q2c H k x E.out).mono ?_;rintro e M ⟨rfl,rfl⟩;go_wp2;go_ret2;rw[m.out.1,m.out.2.1,m.out.2.2];exact⟨rfl,D,F⟩
theorem qlh {w:World}{p o:Nat}{S:Nat->Prop}{C:Ct}(H:Yj w p o S C)(a:Int)(r:Bool)(E:C.fresh a=r) :
  Calls Tryz.prog 252 #[.pointer (some ⟨p,o,none⟩),.int .i64 a] w λe w'=>e=.returned (.bool r)/\w=w':=by
 subst E;obtain⟨x,f⟩:∃x,C.get a=x:=⟨_,rfl⟩;by_cases h0:x=0
 ·have m:C.fresh a=false:=by unfold Ct.fresh;rw[f,if_pos h0]
  rw[m];subst h0;go_enter Tryz.func252,Tryz.ntmps252
  go_wp2_with fail
  refine (q2c H a 0 f).mono ?_;rintro e I ⟨rfl,rfl⟩;go_wp2;go_ret;exact⟨rfl,rfl⟩
 ·have m:=Lib.hid (show C.fresh a=decide (nm C.done a.toNat=0) by unfold Ct.fresh;rw[f,if_neg h0]);obtain⟨F,M,G⟩:=Ct.Eo (C:=C) (a:=a) (by rw[f];exact h0);obtain⟨k,rfl⟩:=Int.eq_ofNat_of_zero_le F;rw[Int.toNat_natCast] at m;obtain⟨g,K,b,J,c0,c1,c2,c3,O,Q,u,d,A⟩:=H.open_;have hd:=d k (by omega);obtain⟨y,B⟩:∃y,nm C.done k=y:=⟨_,rfl⟩;rw[B] at hd m;have D:=Lib.hid f;have j1:¬(C.n:Int)<=(k:Int):=by omega
  clear G u d A B f;go_enter Tryz.func252,Tryz.ntmps252
  go_wp2_with fail
  refine (q2c H k x D.out).mono ?_;rintro e I ⟨rfl,rfl⟩;go_wp2;go_ret;exact⟨by rw[m.out];first|rfl|(refine congrArg (λx=>Ending.returned (Value.bool x)) ?_;rw[Bool.eq_iff_iff];simp[h0]),rfl⟩
theorem qbk {w:World}{p o:Nat}{S:Nat->Prop}{C:Ct}(H:Yj w p o S C) :
  Calls Tryz.prog 121 #[.pointer (some ⟨p,o,none⟩)] w λe w'=>e=.returned (.tuple #[.int .i64 C.U4,.int .i64 C.U3])/\Yj w' p o S C.alloc/\Turn S w w':=by
 have T:=H.ok.1;obtain⟨g,X,b,W,c0,c1,c2,c3,k1,U,u,B,y⟩:=H.open_;have E:=Lib.hid y;have D:=Lib.hid u;clear y u B c1 c2 c3 U;go_enter Tryz.func121,Tryz.ntmps121
 go_wp2_with fail
 go_loop [4,10] (λ_ i=>∃k:Nat,k<=C.n/\i=.int .i64 (k:Int)/\∀j,j<k->C.may j=false) (λ_ i=>C.n-(intOf i).toNat)
 case atStart=>exact⟨0,Nat.zero_le _,rfl,λj J=>absurd J (Nat.not_lt_zero _)⟩
 case round=>
  obtain⟨k,hk,rfl,d⟩:=hrel;by_cases f:k<C.n
  ·obtain⟨hc,R⟩:=D.out k f;obtain⟨M,O,Y,Z⟩:=E.out k 1 f (by omega) (by omega);obtain⟨r,K⟩:∃r,C.may k=r:=⟨_,rfl⟩;have G:=Lib.hid K;have m:=Lib.hid d;have Q:(k:Int)<(C.n:Int):=by omega
   have e0:(0:Int)<=(k:Int):=by omega
   clear K d;go_wp2_with fail
   refine (qes H k f r G.out).mono ?_;rintro e w1 ⟨rfl,rfl⟩
   cases r with
   |true=>
    have A:=Lib.hid (Ct.Xo (C:=C) (k:=k) (Ct.Ov f G.out m.out));go_wp2;go_ret2;rw[A.out.1,A.out.2.1,A.out.2.2];exact⟨rfl,M,O⟩
   |false=>
    go_wp2;refine⟨⟨k+1,by omega,by go_num,λj J=>?_⟩,by simp[intOf];omega⟩;by_cases I:j=k
    ·rw[I];exact G.out
    ·exact m.out j (by omega)
  ·have F:k=C.n:=by omega
   have Q:¬(k:Int)<(C.n:Int):=by omega
   have A:=Lib.hid (Ct.Vh (Ct.Ou (C:=C) (by rw[<-F];exact d)));clear d F;go_wp2;go_ret2;rw[A.out.1,A.out.2.1,A.out.2.2];exact⟨rfl,H,Turn.refl _ _⟩
theorem qet {w:World}{p o:Nat}{S:Nat->Prop}{C:Ct}(H:Yj w p o S C)(n:Nat)(hn:C.free=n) :
  Calls Tryz.prog 67 #[.pointer (some ⟨p,o,none⟩)] w λe w'=>e=.returned (.int .i64 (n:Int))/\w=w':=by
 have J:=H.ok.1;obtain⟨g,O,b,M,c0,c1,c2,c3,R,K,y,d,_⟩:=H.open_;have G:=Lib.hid hn;clear y d hn c1 c2 c3 K;go_enter Tryz.func67,Tryz.ntmps67
 go_wp2_with fail
 go_loop [3,4,10] (λz _ i=>∃k:Nat,k<=C.n/\i=.int .i64 (k:Int)/\z=.int .i64 (C.Xh k:Int)) (λ_ _ i=>C.n-(intOf i).toNat)
 case atStart=>exact⟨0,Nat.zero_le _,rfl,rfl⟩
 case round=>
  obtain⟨k,Q,rfl,rfl⟩:=hrel;have B:=C.Oo k;by_cases D:k<C.n
  ·have f:=Lib.hid (C.Uh k);obtain⟨q,E⟩:∃q,C.Xh k=q:=⟨_,rfl⟩;rw[E] at B f ⊢;obtain⟨r,F⟩:∃r,C.may k=r:=⟨_,rfl⟩;have A:=Lib.hid F;have I:(k:Int)<(C.n:Int):=by omega
   clear E F;go_wp2_with fail
   refine (qes H k D r A.out).mono ?_;rintro e T ⟨rfl,rfl⟩
   cases r with
   |true=>
    have m:=Lib.hid (show C.Xh (k+1)=q+1 by rw[f.out,if_pos A.out]);go_wp2;refine⟨⟨k+1,by omega,by go_num,by rw[m.out];go_num⟩,by simp[intOf];omega⟩
   |false=>
    have m:=Lib.hid (show C.Xh (k+1)=q by rw[f.out,if_neg (by rw[A.out];decide),Nat.add_zero]);go_wp2;refine⟨⟨k+1,by omega,by go_num,by rw[m.out]⟩,by simp[intOf];omega⟩
  ·have u:k=C.n:=by omega
   have I:¬(k:Int)<(C.n:Int):=by omega
   have m:=Lib.hid (show C.Xh k=n by rw[u];exact G.out);clear u;go_wp2;go_ret;exact⟨by rw[<-m.out];rfl,rfl⟩
