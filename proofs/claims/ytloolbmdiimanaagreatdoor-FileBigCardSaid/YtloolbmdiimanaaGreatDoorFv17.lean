/- Counts as plain data; the reference's counts as they lie; its Get, Ref, Unref, Fresh, Firs -/
import Derived.Test.YtloolbmdiimanaaGreatDoorFv3
import Derived.Test.YtloolbmdiimanaaGreatDoorFv4
import Derived.Deep.RegionHeld3
import Derived.Laws.CopyOwn
namespace Go.Proofs.YtloolbmdiimanaaGreatDoor
open Go Go.RowKit Go.Proofs Tryz
set_option maxHeartbeats 4000000
set_option maxRecDepth 10000
def cv (x:Int):Value:=.int .i64 x
theorem qy3 (l:LI):∀u∈l.map cv,u.oneCell'=true:=by
 intro u d;obtain⟨_,_,rfl⟩:=List.mem_map.1 d;rfl
def nm (l:LI)(k:Nat):Int:=l.getD k 0
theorem q5z (l:LI)(k:Nat)(x:Int)(h:k<l.length):nm (l.set k x) k=x:=by simp[nm,h]
theorem q4i (l:LI)(k j:Nat)(x:Int)(h:k≠j):nm (l.set k x) j=nm l j:=by simp[nm,h]
structure Ct where
 now:LI
 done:LI
 same:done.length=now.length
def Ct.n (C:Ct):Nat:=C.now.length
def Ct.first (C:Ct):Nat:=2+2*Qj C.n
def Ct.get (C:Ct)(a:Int):Int:=if 0<=a/\a<(C.n:Int) then nm C.now a.toNat else 0
def Ct.put (C:Ct)(k:Nat)(x:Int):Ct:=⟨C.now.set k x,C.done,by rw[List.length_set];exact C.same⟩
def Ct.Y0 (C:Ct)(a:Int):Int:=if C.get a=0 then 1 else if C.get a=65535 then 7 else 0
def Ct.ref (C:Ct)(a:Int):Ct:=if C.Y0 a=0 then C.put a.toNat (C.get a+1) else C
def Ct.Jp (C:Ct)(a:Int):Int:=if C.get a=0 then 1 else 0
def Ct.Jw (C:Ct)(a:Int):Int:=if C.get a=0 then 0 else C.get a-1
def Ct.Qp (C:Ct)(a:Int):Ct:=if C.get a=0 then C else C.put a.toNat (C.get a-1)
def Ct.fresh (C:Ct)(a:Int):Bool:=if C.get a=0 then false else decide (nm C.done a.toNat=0)
def Ct.Gw (C:Ct)(k:Nat):Bool:=decide (nm C.now k=0/\nm C.done k=0)
def Ct.commit (C:Ct):Ct:=⟨C.now,C.now,rfl⟩
def Ct.ok (C:Ct):Prop:=(32<=C.n/\C.n<=2048)/\∀k,k<C.n->0<=nm C.now k/\nm C.now k<=65535
theorem Ct.Zv {C:Ct}(h:C.ok)(a:Int):0<=C.get a/\C.get a<=65535:=by
 unfold Ct.get;split
 ·exact h.2 _ (by omega)
 ·omega
theorem Ct.Ej {C:Ct}{a:Int}(h:¬C.get a=0):0<=a/\a<(C.n:Int)/\C.get a=nm C.now a.toNat:=by
 unfold Ct.get at h ⊢;split at h
 ·rename_i h2;rw[AA h2];exact⟨h2.1,h2.2,rfl⟩
 ·exact absurd rfl h
theorem Ct.Zf (C:Ct)(k:Nat)(x:Int):(C.put k x).n=C.n:=List.length_set
theorem Ct.Bl {C:Ct}(h:C.ok)(k:Nat)(x:Int)(h1:0<=x)(h2:x<=65535):(C.put k x).ok:=by
 refine⟨by rw[C.Zf];exact h.1,λj d=>?_⟩;rw[C.Zf] at d;show 0<=nm (C.now.set k x) j/\nm (C.now.set k x) j<=65535;by_cases f:k=j
 ·subst f;rw[q5z _ _ _ d];exact⟨h1,h2⟩
 ·rw[q4i _ _ _ _ f];exact h.2 j d
theorem Ct.Og {C:Ct}(h:C.ok):C.commit.ok:=h
def Xe (w:WD)(g n c:Nat)(l:LI):Prop:=w.ownsRow 0 3 1 (.slice (some ⟨g,0,none⟩) n c) n (l.map cv)
section
variable {w w':WD}{g n c:Nat}{l:LI}
theorem Xe.len (h:Xe w g n c l):l.length=n:=by have:=h.1;simpa using this
theorem Xe.cap (h:Xe w g n c l):n<=c/\c<=maxLen:=by
 rcases h.2 with⟨d,_⟩|⟨y,cap,m,d,_,_,h1,h2,_⟩
 ·injection d with f;cases f
 ·injection d with f p u;omega
theorem Xe.lt (h:Xe w g n c l):g<w.1.size:=by
 rcases h.2 with⟨f,_⟩|⟨u,cap,m,f,_,p,_⟩
 ·injection f with d;cases d
 ·injection f with d;injection d with d;injection d with d;subst d;exact (Array.getElem?_eq_some_iff.1 p).1
theorem Xe.keep (h:Xe w g n c l)(hk:w'.1[g]?=w.1[g]?):Xe w' g n c l:=q2u h λq d=>by
 have:q=g:=by
  have:(Value.slice (some ⟨g,0,none⟩) n c).ownBlock=some g:=rfl;rw[this] at d;exact (OI d).symm
 rw[this];exact hk
theorem Xe.at_ (h:Xe w g n c l){j:Nat}(hj:j<n):w.cell? ⟨g,j,none⟩=some (.int .i64 (nm l j))/\w.frozen? ⟨g,j,none⟩=false:=by
 have d:=h.len;refine⟨?_,World.ownsRow.frozenAt h j⟩;rw[World.ownsRow.cellAt h j (by omega),BA,AC (by omega)];unfold nm;rw[AG,AC (by omega)];rfl
theorem Xe.G7 (h:Xe w g n c l)(j:Nat)(x:Int):Xe (w.setCell ⟨g,j,none⟩ (.int .i64 x)) g n c (l.set j x):=by
 unfold Xe;rw[List.map_set];exact (World.ownsRow.stored h j (cv x)).1
end
def RC (w:WD)(p:Nat)(S:NP)(C:Ct):Prop:=∃(a d b f:Nat) (t:TypeId),w.1[p]?=some (.cells #[.slice (some ⟨a,0,none⟩) C.n d,.slice (some ⟨b,0,none⟩) C.n f] t (0,0))/\Xe w a C.n d C.now/\Xe w b C.n f C.done/\(a≠b/\p≠a/\p≠b)/\(S p/\S a/\S b)/\C.ok
theorem RC.ok {w:WD}{p:Nat}{S:NP}{C:Ct}(h:RC w p S C):C.ok:=by
 obtain⟨_,_,_,_,_,_,_,_,_,_,h⟩:=h;exact h
theorem RC.mono {w:WD}{p:Nat}{S S':NP}{C:Ct}(h:RC w p S C)(hs:∀k,S k->S' k):RC w p S' C:=by
 obtain⟨a,f,b,m,t,h1,h2,u,y,d,A⟩:=h;exact⟨a,f,b,m,t,h1,h2,u,y,⟨hs _ d.1,hs _ d.2.1,hs _ d.2.2⟩,A⟩
def Ct.may (C:Ct)(j:Nat):Bool:=decide (C.first<=j)&&C.Gw j
def Ct.pick (C:Ct):Option Nat:=(List.range C.n).find? C.may
def Ct.Ku (C:Ct):Int:=match C.pick with|some _=>0|none=>6
def Ct.Kv (C:Ct):Int:=match C.pick with|some k=>(k:Int)|none=>0
def Ct.alloc (C:Ct):Ct:=match C.pick with|some k=>C.put k 1|none=>C
def Ct.Ju (C:Ct)(k:Nat):Nat:=(List.range k).countP C.may
def Ct.free (C:Ct):Nat:=C.Ju C.n
theorem Ct.Ot {C:Ct}{k:Nat}(hk:k<C.n)(h:C.may k=true)(hall:∀j,j<k->C.may j=false):C.pick=some k:=by
 unfold Ct.pick;rw[List.find?_range_eq_some];exact⟨h,List.mem_range.2 hk,λj d=>by rw[hall j d];rfl⟩
theorem Ct.Oq {C:Ct}(hall:∀j,j<C.n->C.may j=false):C.pick=none:=by
 unfold Ct.pick;rw[List.find?_eq_none];intro j d;rw[hall j (List.mem_range.1 d)];simp
theorem Ct.Jf {C:Ct}{k:Nat}(h:C.pick=some k):C.Ku=0/\C.Kv=(k:Int)/\C.alloc=C.put k 1:=by
 unfold Ct.Ku Ct.Kv Ct.alloc;rw[h];exact⟨rfl,rfl,rfl⟩
theorem Ct.Y9 {C:Ct}(h:C.pick=none):C.Ku=6/\C.Kv=0/\C.alloc=C:=by
 unfold Ct.Ku Ct.Kv Ct.alloc;rw[h];exact⟨rfl,rfl,rfl⟩
theorem Ct.Kt (C:Ct)(k:Nat):C.Ju (k+1)=C.Ju k+(if C.may k=true then 1 else 0):=by
 unfold Ct.Ju;rw[List.range_succ,List.countP_append,List.countP_singleton]
theorem Ct.Le (C:Ct){k:Nat}(h:k<=C.first):C.Ju k=0:=by
 unfold Ct.Ju;rw[List.countP_eq_zero];intro j d;have:=List.mem_range.1 d;unfold Ct.may;rw[AH (by omega)];simp
theorem Ct.Ol (C:Ct)(k:Nat):C.Ju k<=k:=by
 unfold Ct.Ju;have:=List.countP_le_length (p:=C.may) (l:=List.range k);rwa [List.length_range] at this
structure Qcm (P:Program)(t e:TypeId):Prop where
 sl:P.underlying t=some (.slice e)
 info:(P.info? e).map (λi=>(i.zero,i.size,i.bytes))=some (some (.int .i64 0),1,8)
theorem TN:Qcm prog 30 3:=⟨underlying30,by kernel_rfl⟩
section
variable {P:Program}{t e:TypeId}(w:WD)
end
theorem Xe.cells {w:WD}{g n c:Nat}{l:LI}(h:Xe w g n c l):∀(j:Nat) u,(l.map cv)[j]?=some u->w.cell? ((⟨g,0,none⟩:Addr).add j)=some u:=λj u d=>by
 have f:j<n:=by have:=(List.getElem?_eq_some_iff.1 d).1;rw[AF,h.len] at this;exact this
 rw[Addr.add_mid,AT,World.ownsRow.cellAt h j (by omega),d]
def Ct.zero (n:Nat):Ct:=⟨List.replicate n 0,List.replicate n 0,rfl⟩
theorem Ct.Zb (n:Nat):(Ct.zero n).n=n:=BK
theorem Ct.Ak {n:Nat}(h1:32<=n)(h2:n<=2048):(Ct.zero n).ok:=by
 refine⟨by rw[Ct.Zb];exact⟨h1,h2⟩,λk d=>?_⟩;rw[Ct.Zb] at d;show 0<=nm (List.replicate n 0) k/\nm (List.replicate n 0) k<=65535;unfold nm;simp[d]
section
variable {P:Program}{t e:TypeId}(w:WD)
theorem qsn (n:Nat):(madeCells (Value.int .i64 0).cells (n*1)).toList=(List.replicate n (0:Int)).map cv:=by
 rw[show (Value.int .i64 0).cells=#[.int .i64 0] from rfl,Nat.mul_one,toList_madeCells_one];simp[cv]
end
def mkI (a b:Value):Sem Value:=Instr.makeSlice 30 a b
theorem qjg (a b:Value):Instr.makeSlice 30 a b=mkI a b:=rfl
def Uc (n:Nat)(w:WD):WD:=w.alloc (.cells (madeCells #[.int .i64 0] (n*1)) 3)
theorem qnz (n:Nat)(hn:n<=1000000)(w:WD):(mkI (.int .i64 (n:Int)) (.int .i64 (n:Int))).run prog w=.ok (.slice (some ⟨w.1.size,0,none⟩) n n) (Uc n w):=by
 obtain⟨i,hi,f,d,m⟩:=info_parts TN.info;have h:=run_makeSlice (P:=prog) w 30 3 i _ TN.sl hi f .i64 .i64 n n (by omega) (by omega) (by rw[d,AJ];omega) (by rw[m];omega) (by omega);rw[d] at h;exact h
theorem qjh (n:Nat)(hn:n<=1000000)(w:WD):Xe (Uc n w) w.1.size n n (List.replicate n 0):=by
 have hm:(madeCells #[.int .i64 0] (n*1)).toList=(List.replicate n (0:Int)).map cv:=qsn n;have d:=congrArg List.length hm;rw[Array.length_toList,AF,BK] at d;refine⟨by rw[AF,BK,Nat.mul_one],.inr ⟨w.1.size,n,_,rfl,AW _,BE w _,AE _,by unfold maxLen;omega,by rw[d,Nat.mul_one],?_⟩⟩;rw[hm,AN (by rw[AF,BK,Nat.mul_one];exact AE _)]
theorem qbv (n base:Nat)(w:WD)(h:base<=w.1.size):Below base w (Uc n w):=(AI _ _).alloc h _
theorem q3g (n:Nat)(w:WD):(Uc n w).1.size=w.1.size+1:=by simp[Uc]
section
attribute [local go_sem ↓] qjg
end
def Yt (w:WD)(p o:Nat)(S:NP)(C:Ct):Prop:=∃(a f b m:Nat) (t:TypeId) (d:Array Value),w.1[p]?=some (.cells d t (0,0))/\(d[o]?=some (.slice (some ⟨a,0,none⟩) C.n f)/\d[o+1]?=some (.slice (some ⟨b,0,none⟩) C.n m)/\d[o+2]?=some (.int .i64 (Qj C.n:Int))/\d[o+3]?=some (.int .i64 (C.first:Int)))/\Xe w a C.n f C.now/\Xe w b C.n m C.done/\(a≠b/\p≠a/\p≠b)/\(S a/\S b)/\C.ok
theorem q3a {w:WD}{p k:Nat}{d:Array Value}{t:TypeId}{v:Value}(h:w.1[p]?=some (.cells d t (0,0)))(f:d[k]?=some v):w.cell? ⟨p,k,none⟩=some v:=by rw[cell_of_row _ _ _ _ _ _ h];exact f
theorem Yt.ok {w:WD}{p o:Nat}{S:NP}{C:Ct}(h:Yt w p o S C):C.ok:=by
 obtain⟨_,_,_,_,_,_,_,_,_,_,_,_,h⟩:=h;exact h
theorem Yt.lt {w:WD}{p o:Nat}{S:NP}{C:Ct}(h:Yt w p o S C):p<w.1.size:=by
 obtain⟨_,_,_,_,_,_,h,_⟩:=h;exact (Array.getElem?_eq_some_iff.1 h).1
theorem Yt.keep {w w':WD}{p o:Nat}{S:NP}{C:Ct}(h:Yt w p o S C)(hp:w'.1[p]?=w.1[p]?)(hk:∀k,k<w.1.size->S k->w'.1[k]?=w.1[k]?):Yt w' p o S C:=by
 obtain⟨a,u,b,y,t,d,h1,D,h2,m,A,f,B⟩:=h;exact⟨a,u,b,y,t,d,hp.trans h1,D,h2.keep (hk a h2.lt f.1),m.keep (hk b m.lt f.2),A,f,B⟩
theorem Yt.mono {w:WD}{p o:Nat}{S S':NP}{C:Ct}(h:Yt w p o S C)(hs:∀k,S k->S' k):Yt w p o S' C:=by
 obtain⟨a,m,b,u,t,d,h1,D,h2,y,A,f,B⟩:=h;exact⟨a,m,b,u,t,d,h1,D,h2,y,A,⟨hs _ f.1,hs _ f.2⟩,B⟩
theorem Yt.below {w w':WD}{p o:Nat}{S:NP}{C:Ct}(h:Yt w p o S C)(hb:Below w.1.size w w'):Yt w' p o S C:=h.keep (hb.block p h.lt) λk d _=>hb.block k d
theorem Yt.shrink {w:WD}{p o:Nat}{S:NP}{C:Ct}(h:Yt w p o S C):Yt w p o (λk=>S k/\k<w.1.size) C:=by
 obtain⟨a,u,b,y,t,d,h1,D,h2,f,A,m,B⟩:=h;exact⟨a,u,b,y,t,d,h1,D,h2,f,A,⟨⟨m.1,h2.lt⟩,⟨m.2,f.lt⟩⟩,B⟩
theorem Yt.around {w w':WD}{p o p' o':Nat}{S:NP}{C:Ct}{cur cur':Array Value}{t t':TypeId}(h:Yt w p o S C)(hp:w.1[p]?=some (.cells cur t (0,0)))(hp':w'.1[p']?=some (.cells cur' t' (0,0)))
  (hc:∀j,j<4->cur'[o'+j]?=cur[o+j]?) (hne:∀k,S k->p'≠k) (hk:∀k,k<w.1.size->S k->w'.1[k]?=w.1[k]?):Yt w' p' o' S C:=by
 obtain⟨a,y,b,A,t,m,h1,f,h2,u,B,d,D⟩:=h;rw[hp] at h1;injection h1 with h1;injection h1 with h1 _ _;subst h1;exact⟨a,y,b,A,t',cur',hp',⟨(hc 0 (by omega)).trans f.1,(hc 1 (by omega)).trans f.2.1,(hc 2 (by omega)).trans f.2.2.1,(hc 3 (by omega)).trans f.2.2.2⟩,h2.keep (hk a h2.lt d.1),u.keep (hk b u.lt d.2),⟨B.1,hne a d.1,hne b d.2⟩,d,D⟩
theorem Yt.open_ {w:WD}{p o:Nat}{S:NP}{C:Ct}(H:Yt w p o S C):∃g d b f:Nat,w.cell? ⟨p,o,none⟩=some (.slice (some ⟨g,0,none⟩) C.n d)/\w.cell? ⟨p,o+1,none⟩=some (.slice (some ⟨b,0,none⟩) C.n f)/\w.cell? ⟨p,o+2,none⟩=some (.int .i64 (Qj C.n:Int))/\w.cell? ⟨p,o+3,none⟩=some (.int .i64 (C.first:Int))/\
  (C.n<=d/\d<=9223372036854775807)/\(C.n<=f/\f<=9223372036854775807)/\(∀k,k<C.n->w.cell? ⟨g,k,none⟩=some (.int .i64 (nm C.now k))/\w.frozen? ⟨g,k,none⟩=false)/\(∀k,k<C.n->w.cell? ⟨b,k,none⟩=some (.int .i64 (nm C.done k)))/\
  (∀(k:Nat) (x:Int),k<C.n->0<=x->x<=65535->Yt (w.setCell ⟨g,k,none⟩ (.int .i64 x)) p o S (C.put k x)/\Turn S w (w.setCell ⟨g,k,none⟩ (.int .i64 x))/\(w.setCell ⟨g,k,none⟩ (.int .i64 x)).cell? ⟨p,o,none⟩=some (.slice (some ⟨g,0,none⟩) C.n d)/\(w.setCell ⟨g,k,none⟩ (.int .i64 x)).cell? ⟨g,k,none⟩=some (.int .i64 x)):=by
 obtain⟨g,d,b,f,t,u,h1,⟨E,M,O,Q⟩,h2,y,A,F,R⟩:=H;have J:=h2.cap;have K:=y.cap;unfold maxLen at J K;refine⟨g,d,b,f,q3a h1 E,q3a h1 M,q3a h1 O,q3a h1 Q,⟨J.1,by omega⟩,⟨K.1,by omega⟩,λk m=>h2.at_ m,λk m=>(y.at_ m).1,λk x m B D=>?_⟩;have e:∀j,j≠g->(w.setCell ⟨g,k,none⟩ (.int .i64 x)).1[j]?=w.1[j]?:=λj U=>Below.heap_setCell _ _ _ _ (by show j≠g;exact U)
 have I:=(e p A.2.1).trans h1;have G:=h2.G7 k x;have T:(C.put k x).first=C.first:=by unfold Ct.first;rw[C.Zf]
 refine⟨⟨g,d,b,f,t,u,I,?_,?_,?_,A,F,C.Bl R k x B D⟩,Bz (a:=⟨g,k,none⟩) _ F.1,q3a I E,?_⟩
 ·rw[C.Zf,T];exact⟨E,M,O,Q⟩
 ·rw[C.Zf];exact G
 ·rw[C.Zf];exact y.keep (e b (Ne.symm A.1))
 ·have:=(G.at_ m).1;rw[q5z _ _ _ (by rw[h2.len];exact m)] at this;exact this
theorem q2i {w:WD}{p o:Nat}{S:NP}{C:Ct}(H:Yt w p o S C)(a x:Int)(A:C.get a=x) :
  Calls prog 66 #[.pointer (some ⟨p,o,none⟩),.int .i64 a] w λe w'=>e=.returned (.int .i64 x)/\w=w':=by
 obtain⟨g,G,b,F,c0,c1,c2,c3,K,M,f,m,y⟩:=H.open_;have u:=HI f;clear f m y c1 c2 c3;by_cases h0:0<=a
 ·obtain⟨k,rfl⟩:=Int.eq_ofNat_of_zero_le h0;by_cases E:k<C.n
  ·have d:=HI (show x=nm C.now k by rw[<-A];unfold Ct.get;rw[AA (by omega)];rfl);obtain⟨J,_⟩:=u.out k E;have B:¬(k:Int)<0:=by omega
   have D:¬(C.n:Int)<=(k:Int):=by omega
   have I:(k:Int)<(C.n:Int):=by omega
   go_enter func66,ntmps66
   go_wp2;go_ret;exact⟨by rw[d.out];rfl,rfl⟩
  ·have d:=HI (show x=0 by rw[<-A];unfold Ct.get;rw[AB (by omega)]);have B:¬(k:Int)<0:=by omega
   have D:(C.n:Int)<=(k:Int):=by omega
   go_enter func66,ntmps66
   go_wp2;go_ret;exact⟨by rw[d.out];rfl,rfl⟩
 ·have d:=HI (show x=0 by rw[<-A];unfold Ct.get;rw[AB (by omega)]);have B:a<0:=by omega
  go_enter func66,ntmps66
  go_wp2;go_ret;exact⟨by rw[d.out];rfl,rfl⟩
def Ct.counted (C:Ct)(a:Nat):Bool:=decide (C.first<=a/\a<C.n)
theorem q27 {w:WD}{p o:Nat}{S:NP}{C:Ct}(H:Yt w p o S C)(a:Nat)(r:Bool)(E:C.counted a=r) :
  Calls prog 58 #[.pointer (some ⟨p,o,none⟩),.int .i64 (a:Int)] w λe w'=>e=.returned (.bool r)/\w=w':=by
 obtain⟨g,I,b,G,c0,c1,c2,c3,J,K,y,d,A⟩:=H.open_;clear y d A c1 c2;obtain⟨f,B⟩:∃f,C.first=f:=⟨_,rfl⟩
 have m:=HI (show r=decide (f<=a/\a<C.n) by rw[<-E,<-B];rfl);rw[B] at c3;clear B E;by_cases h1:f<=a
 ·by_cases h2:a<C.n
  ·have u:=HI (show r=true by rw[m.out];exact AL ⟨h1,h2⟩);have D:(f:Int)<=(a:Int):=by omega
   have F:(a:Int)<(C.n:Int):=by omega
   go_enter func58,ntmps58
   go_wp2;go_ret;exact⟨by rw[u.out];rfl,rfl⟩
  ·have u:=HI (show r=false by rw[m.out];exact AH λh=>h2 h.2);have D:(f:Int)<=(a:Int):=by omega
   have F:¬(a:Int)<(C.n:Int):=by omega
   go_enter func58,ntmps58
   go_wp2;go_ret;exact⟨by rw[u.out];rfl,rfl⟩
 ·have u:=HI (show r=false by rw[m.out];exact AH λh=>h1 h.1);have D:¬(f:Int)<=(a:Int):=by omega
  go_enter func58,ntmps58
  go_wp2;go_ret;exact⟨by rw[u.out];rfl,rfl⟩
theorem qf8 {w:WD}{p o:Nat}{S:NP}{C:Ct}(H:Yt w p o S C)(k:Nat)(B:k<C.n)(r:Bool)(F:C.may k=r) :
  Calls prog 32 #[.pointer (some ⟨p,o,none⟩),.int .i64 (k:Int)] w λe w'=>e=.returned (.bool r)/\w=w':=by
 obtain⟨g,K,b,J,c0,c1,c2,c3,R,T,u,d,A⟩:=H.open_;obtain⟨I,_⟩:=u k B;have hd:=d k B;clear u d A c2 c3;obtain⟨x,D⟩:∃x,nm C.now k=x:=⟨_,rfl⟩;obtain⟨y,E⟩:∃y,nm C.done k=y:=⟨_,rfl⟩;have hm:=HI (show r=(decide (C.first<=k)&&decide (x=0/\y=0)) by rw[<-F,<-D,<-E];rfl);rw[D] at I;rw[E] at hd;clear D E F;have M:(k:Int)<(C.n:Int):=by omega
 have O:¬(C.n:Int)<=(k:Int):=by omega
 by_cases h1:C.first<=k
 ·have f:=HI (show C.counted k=true from AL ⟨h1,B⟩);have hm:=HI (show r=decide (x=0/\y=0) by rw[hm.out,AL h1,Bool.true_and]);clear h1;by_cases m:x=0
  ·have hm:=HI (show r=decide (y=0) by rw[hm.out];simp[m]);subst m;go_enter func32,ntmps32
   go_wp2_with fail
   refine (q27 H k true f.out).mono ?_;rintro e G ⟨rfl,rfl⟩;go_wp2;go_ret;exact⟨by rw[hm.out];first|rfl|(refine congrArg (λx=>Ending.returned (Value.bool x)) ?_;rw[Bool.eq_iff_iff];simp),rfl⟩
  ·have hm:=HI (show r=false by rw[hm.out];exact AH λh=>m h.1);have Q:(x==0)=false:=by simpa using m
   go_enter func32,ntmps32
   go_wp2_with fail
   refine (q27 H k true f.out).mono ?_;rintro e G ⟨rfl,rfl⟩;go_wp2;go_ret;exact⟨by rw[hm.out];rfl,rfl⟩
 ·have f:=HI (show C.counted k=false from AH λh=>h1 h.1);have hm:=HI (show r=false by rw[hm.out,AH h1,Bool.false_and]);clear h1;go_enter func32,ntmps32
  go_wp2_with fail
  refine (q27 H k false f.out).mono ?_;rintro e G ⟨rfl,rfl⟩;go_wp2;go_ret;exact⟨by rw[hm.out];rfl,rfl⟩
theorem Xe.whole {w:WD}{g n c:Nat}{l:LI}(h:Xe w g n c l):∃d:Array Value,w.1[g]?=some (.cells d 3 (0,0))/\d.size=c/\d.toList.take n=l.map cv/\n<=c/\c<=maxLen:=by
 rcases h.2 with⟨m,_⟩|⟨D,cap,d,m,E,A,h1,h2,p,u⟩
 ·injection m with f;cases f
 ·injection m with f B y;injection f with f;injection f with f;subst f;subst y;rw[Nat.mul_one] at p u;exact⟨d,A,p,u,h1,h2⟩
theorem Xe.of_whole {w:WD}{g n c:Nat}{l:LI}(cur:Array Value)(hg:w.1[g]?=some (.cells cur 3 (0,0)))(h3:cur.size=c)(h4:cur.toList.take n=l.map cv)(hl:l.length=n)(h1:n<=c)(h2:c<=maxLen):Xe w g n c l:=
 ⟨by rw[AF,hl,Nat.mul_one],.inr ⟨g,c,cur,rfl,AW _,hg,h1,h2,by rw[h3,Nat.mul_one],by rw[Nat.mul_one];exact h4⟩⟩
theorem qhs {w:WD}{F:Array Oper}{o:Oper}{a:Act}{K:Act->WD->Prop}{Q:Exit->Act->WD->Prop}{E:Prop}(B:o.guard=none)(d s:Operand)
  (R:o.op=.call { callee:=.builtin .copy,args:=#[d,s],argTypes:=#[30,30] }) (g n c:Nat) (l:LI) (T:Xe w g n c l) (hd:a.eval d=.slice (some ⟨g,0,none⟩) n c)
  (A c2:Nat) (u:LI) (y:Xe w A n c2 u) (U:a.eval s=.slice (some ⟨A,0,none⟩) n c2)
  (I:∀w',Xe w' g n c u->(∀k,k≠g->w'.1[k]?=w.1[k]?)->(∀S:NP,S g->Turn S w w')->K (a.put o.dst (goInt n)) w'):if Region.wanted o (yielded F a.tmps)=true then Oper.wp prog o a w K Q else E:=by
 rw[AA (by simp[Region.wanted,B])];obtain⟨i,hi,W,D,X⟩:=info_parts TN.info;obtain⟨m,H,G,Y,h1,h2⟩:=T.whole;have f:=y.len;have p:=run_copy_row (P:=prog) w 30 30 o.type 3 g 0 n c ⟨A,0,none⟩ n c2 m 3 (u.map cv) TN.sl (by rw[hi];simp[D]) H (by rw[AF,f];exact (Nat.min_self n).symm) y.cells (by rw[AF,f,G];omega) (qy3 _);rw[AF,f] at p;unfold Oper.wp;simp[execOp,R,resolve,invoke,builtin,hd,U,p,Result.andThen];have M:(w.setRow g (u.map cv++m.toList.drop n).toArray).1[g]?=some (.cells (u.map cv++m.toList.drop n).toArray 3 (0,0)):=setRow_heap w g _ _ 3 _ H;have e:∀k,k≠g->(w.setRow g (u.map cv++m.toList.drop n).toArray).1[k]?=w.1[k]?:=λk O=>setRow_other w g k _ O
 have key:=I (w.setRow g (u.map cv++m.toList.drop n).toArray) (Xe.of_whole _ M (by rw[List.size_toArray,AD,AF,AS,f,Array.length_toList,G];omega) (by rw[List.take_left' (by rw[AF,f])]) f h1 h2) e (λS J=>⟨rfl,rfl,rfl,by simp[World.setRow],λk _ hn=>e k λh=>hn (h▸J)⟩);exact key
theorem qht {w:WD}{p o:Nat}{S:NP}{C:Ct}(H:Yt w p o S C) :
  Calls prog 103 #[.pointer (some ⟨p,o,none⟩)] w λe w'=>e=.returned (.tuple #[])/\Yt w' p o S C.commit/\Turn S w w':=by
 obtain⟨g,f,b,d,t,y,h1,⟨F,G,O,Q⟩,h2,K,m,E,M⟩:=H;have c0:w.drew.cell? ⟨p,o,none⟩=some (.slice (some ⟨g,0,none⟩) C.n f):=q3a (w:=w.drew) h1 F;have c1:w.drew.cell? ⟨p,o+1,none⟩=some (.slice (some ⟨b,0,none⟩) C.n d):=q3a (w:=w.drew) h1 G;have B:Xe w.drew g C.n f C.now:=h2;have D:Xe w.drew b C.n d C.done:=K;go_enter func103,ntmps103
 go_wp2_with fail
 go_region_held3 (λw'=>w'.cell? ⟨p,o,none⟩=some (.slice (some ⟨g,0,none⟩) C.n f)/\w'.cell? ⟨p,o+1,none⟩=some (.slice (some ⟨b,0,none⟩) C.n d))
  (first|assumption|exact⟨c0,c1⟩|exact A)
  (first
   |(refine qhs rfl (.tmp 5) (.tmp 9) rfl b C.n d C.done D rfl g f C.now B rfl ?_;intro I R u J;have A:I.cell? ⟨p,o,none⟩=some (.slice (some ⟨g,0,none⟩) C.n f)/\I.cell? ⟨p,o+1,none⟩=some (.slice (some ⟨b,0,none⟩) C.n d):=⟨(AY (a:=⟨p,o,none⟩) (u p m.2.2)).trans c0,(AY (a:=⟨p,o+1,none⟩) (u p m.2.2)).trans c1⟩)
   |fail)
 all_goals (
  go_end0
  refine⟨rfl,⟨g,f,b,d,t,y,(u p m.2.2).trans h1,⟨F,G,O,Q⟩,h2.keep (u g m.1),R,m,E,Ct.Og M⟩,?_⟩;have T:=J S E.2;exact (Turn.refl S w).drew.then T)
theorem qso {w:WD}{p o:Nat}{S:NP}{C:Ct}(H:Yt w p o S C)(a:Int) :
  Calls prog 183 #[.pointer (some ⟨p,o,none⟩),.int .i64 a] w λe w'=>e=.returned (.int .i64 (C.Y0 a))/\Yt w' p o S (C.ref a)/\Turn S w w':=by
 obtain⟨x,d⟩:∃x,C.get a=x:=⟨_,rfl⟩;have K:=C.Zv H.ok a;rw[d] at K;by_cases h0:x=0
 ·have f:C.Y0 a=1:=by unfold Ct.Y0;rw[d,AA h0]
  have A:C.ref a=C:=by unfold Ct.ref;rw[f,AB (by decide)]
  rw[f,A];subst h0;go_enter func183,ntmps183
  go_wp2_with fail
  refine (q2i H a 0 d).mono ?_;rintro e F ⟨rfl,rfl⟩;go_wp2;go_ret;exact⟨rfl,H,Turn.refl _ _⟩
 ·by_cases h1:x=65535
  ·have f:C.Y0 a=7:=by unfold Ct.Y0;rw[d,AB h0,AA h1]
   have A:C.ref a=C:=by unfold Ct.ref;rw[f,AB (by decide)]
   rw[f,A];subst h1;go_enter func183,ntmps183
   go_wp2_with fail
   refine (q2i H a 65535 d).mono ?_;rintro e F ⟨rfl,rfl⟩;go_wp2;go_ret;exact⟨rfl,H,Turn.refl _ _⟩
  ·have f:C.Y0 a=0:=by unfold Ct.Y0;rw[d,AB h0,AB h1]
   have A:C.ref a=C.put a.toNat (x+1):=by unfold Ct.ref;rw[f,AA rfl,d]
   have E:=HI f;have D:=HI A;obtain⟨Q,X,B⟩:=Ct.Ej (C:=C) (a:=a) (by rw[d];exact h0);obtain⟨k,rfl⟩:=Int.eq_ofNat_of_zero_le Q;rw[AJ] at B;rw[d] at B;obtain⟨g,T,b,R,c0,c1,c2,c3,Y,Z,m,y,u⟩:=H.open_;obtain⟨M,O⟩:=m k (by omega);rw[<-B] at M;obtain⟨G,J,U,W⟩:=u k (x+1) (by omega) (by omega) (by omega);have I:=HI d;have j1:¬(C.n:Int)<=(k:Int):=by omega
   clear f A B m y u;go_enter func183,ntmps183
   go_wp2_with fail
   refine (q2i H k x I.out).mono ?_;rintro e F ⟨rfl,rfl⟩;go_wp2;go_ret;rw[E.out,D.out];exact⟨rfl,G,J⟩
theorem qlr {w:WD}{p o:Nat}{S:NP}{C:Ct}(H:Yt w p o S C)(a:Int) :
  Calls prog 184 #[.pointer (some ⟨p,o,none⟩),.int .i64 a] w λe w'=>e=.returned (.tuple #[.int .i64 (C.Jw a),.int .i64 (C.Jp a)])/\Yt w' p o S (C.Qp a)/\Turn S w w':=by
 obtain⟨x,y⟩:∃x,C.get a=x:=⟨_,rfl⟩;have G:=C.Zv H.ok a;rw[y] at G;by_cases h0:x=0
 ·have A:C.Jp a=1/\C.Jw a=0/\C.Qp a=C:=by unfold Ct.Jp Ct.Jw Ct.Qp;rw[y,AA h0,AA h0,AA h0];exact⟨rfl,rfl,rfl⟩
  rw[A.1,A.2.1,A.2.2];subst h0;go_enter func184,ntmps184
  go_wp2_with fail
  refine (q2i H a 0 y).mono ?_;rintro e M ⟨rfl,rfl⟩;go_wp2;go_ret2;exact⟨rfl,H,Turn.refl _ _⟩
 ·have A:C.Jp a=0/\C.Jw a=x-1/\C.Qp a=C.put a.toNat (x-1):=by unfold Ct.Jp Ct.Jw Ct.Qp;rw[y,AB h0,AB h0,AB h0];exact⟨rfl,rfl,rfl⟩
  have m:=HI A;obtain⟨K,U,B⟩:=Ct.Ej (C:=C) (a:=a) (by rw[y];exact h0);obtain⟨k,rfl⟩:=Int.eq_ofNat_of_zero_le K;rw[AJ] at B;rw[y] at B;obtain⟨g,Q,b,O,c0,c1,c2,c3,W,X,d,u,f⟩:=H.open_;obtain⟨I,J⟩:=d k (by omega);rw[<-B] at I;obtain⟨D,F,R,T⟩:=f k (x-1) (by omega) (by omega) (by omega);have E:=HI y;have j1:¬(C.n:Int)<=(k:Int):=by omega
  clear A B d u f;go_enter func184,ntmps184
  go_wp2_with fail
  refine (q2i H k x E.out).mono ?_;rintro e M ⟨rfl,rfl⟩;go_wp2;go_ret2;rw[m.out.1,m.out.2.1,m.out.2.2];exact⟨rfl,D,F⟩
theorem qls {w:WD}{p o:Nat}{S:NP}{C:Ct}(H:Yt w p o S C)(a:Int)(r:Bool)(E:C.fresh a=r) :
  Calls prog 180 #[.pointer (some ⟨p,o,none⟩),.int .i64 a] w λe w'=>e=.returned (.bool r)/\w=w':=by
 subst E;obtain⟨x,f⟩:∃x,C.get a=x:=⟨_,rfl⟩;by_cases h0:x=0
 ·have m:C.fresh a=false:=by unfold Ct.fresh;rw[f,AA h0]
  rw[m];subst h0;go_enter func180,ntmps180
  go_wp2_with fail
  refine (q2i H a 0 f).mono ?_;rintro e I ⟨rfl,rfl⟩;go_wp2;go_ret;exact⟨rfl,rfl⟩
 ·have m:=HI (show C.fresh a=decide (nm C.done a.toNat=0) by unfold Ct.fresh;rw[f,AB h0]);obtain⟨F,M,G⟩:=Ct.Ej (C:=C) (a:=a) (by rw[f];exact h0);obtain⟨k,rfl⟩:=Int.eq_ofNat_of_zero_le F;rw[AJ] at m;obtain⟨g,K,b,J,c0,c1,c2,c3,O,Q,u,d,A⟩:=H.open_;have hd:=d k (by omega);obtain⟨y,B⟩:∃y,nm C.done k=y:=⟨_,rfl⟩;rw[B] at hd m;have D:=HI f;have j1:¬(C.n:Int)<=(k:Int):=by omega
  clear G u d A B f;go_enter func180,ntmps180
  go_wp2_with fail
  refine (q2i H k x D.out).mono ?_;rintro e I ⟨rfl,rfl⟩;go_wp2;go_ret;exact⟨by rw[m.out];first|rfl|(refine congrArg (λx=>Ending.returned (Value.bool x)) ?_;rw[Bool.eq_iff_iff];simp[h0]),rfl⟩
theorem q7h {w:WD}{p o:Nat}{S:NP}{C:Ct}(H:Yt w p o S C) :
  Calls prog 85 #[.pointer (some ⟨p,o,none⟩)] w λe w'=>e=.returned (.tuple #[.int .i64 C.Kv,.int .i64 C.Ku])/\Yt w' p o S C.alloc/\Turn S w w':=by
 have T:=H.ok.1;obtain⟨g,X,b,W,c0,c1,c2,c3,k1,U,u,B,y⟩:=H.open_;have E:=HI y;have D:=HI u;clear y u B c1 c2 c3 U;go_enter func85,ntmps85
 go_wp2_with fail
 go_loop [4,10] (λ_ i=>∃k:Nat,k<=C.n/\i=.int .i64 (k:Int)/\∀j,j<k->C.may j=false) (λ_ i=>C.n-(intOf i).toNat)
 case atStart=>exact⟨0,AW _,rfl,λj J=>absurd J (Nat.not_lt_zero _)⟩
 case round=>
  obtain⟨k,hk,rfl,d⟩:=hrel;by_cases f:k<C.n
  ·obtain⟨hc,R⟩:=D.out k f;obtain⟨M,O,Y,Z⟩:=E.out k 1 f (by omega) (by omega);obtain⟨r,K⟩:∃r,C.may k=r:=⟨_,rfl⟩;have G:=HI K;have m:=HI d;have Q:(k:Int)<(C.n:Int):=by omega
   have e0:(0:Int)<=(k:Int):=by omega
   clear K d;go_wp2_with fail
   refine (qf8 H k f r G.out).mono ?_;rintro e w1 ⟨rfl,rfl⟩
   cases r with
   |true=>
    have A:=HI (Ct.Jf (C:=C) (k:=k) (Ct.Ot f G.out m.out));go_wp2;go_ret2;rw[A.out.1,A.out.2.1,A.out.2.2];exact⟨rfl,M,O⟩
   |false=>
    go_wp2;refine⟨⟨k+1,by omega,by go_num,λj J=>?_⟩,by simp[intOf];omega⟩;by_cases I:j=k
    ·rw[I];exact G.out
    ·exact m.out j (by omega)
  ·have F:k=C.n:=by omega
   have Q:¬(k:Int)<(C.n:Int):=by omega
   have A:=HI (Ct.Y9 (Ct.Oq (C:=C) (by rw[<-F];exact d)));clear d F;go_wp2;go_ret2;rw[A.out.1,A.out.2.1,A.out.2.2];exact⟨rfl,H,Turn.refl _ _⟩
theorem qf9 {w:WD}{p o:Nat}{S:NP}{C:Ct}(H:Yt w p o S C)(n:Nat)(hn:C.free=n) :
  Calls prog 20 #[.pointer (some ⟨p,o,none⟩)] w λe w'=>e=.returned (.int .i64 (n:Int))/\w=w':=by
 have J:=H.ok.1;obtain⟨g,O,b,M,c0,c1,c2,c3,R,K,y,d,_⟩:=H.open_;have G:=HI hn;clear y d hn c1 c2 c3 K;go_enter func20,ntmps20
 go_wp2_with fail
 go_loop [3,4,10] (λz _ i=>∃k:Nat,k<=C.n/\i=.int .i64 (k:Int)/\z=.int .i64 (C.Ju k:Int)) (λ_ _ i=>C.n-(intOf i).toNat)
 case atStart=>exact⟨0,AW _,rfl,rfl⟩
 case round=>
  obtain⟨k,Q,rfl,rfl⟩:=hrel;have B:=C.Ol k;by_cases D:k<C.n
  ·have f:=HI (C.Kt k);obtain⟨q,E⟩:∃q,C.Ju k=q:=⟨_,rfl⟩;rw[E] at B f ⊢;obtain⟨r,F⟩:∃r,C.may k=r:=⟨_,rfl⟩;have A:=HI F;have I:(k:Int)<(C.n:Int):=by omega
   clear E F;go_wp2_with fail
   refine (qf8 H k D r A.out).mono ?_;rintro e T ⟨rfl,rfl⟩
   cases r with
   |true=>
    have m:=HI (show C.Ju (k+1)=q+1 by rw[f.out,AA A.out]);go_wp2;refine⟨⟨k+1,by omega,by go_num,by rw[m.out];go_num⟩,by simp[intOf];omega⟩
   |false=>
    have m:=HI (show C.Ju (k+1)=q by rw[f.out,AB (by rw[A.out];decide),Nat.add_zero]);go_wp2;refine⟨⟨k+1,by omega,by go_num,by rw[m.out]⟩,by simp[intOf];omega⟩
  ·have u:k=C.n:=by omega
   have I:¬(k:Int)<(C.n:Int):=by omega
   have m:=HI (show C.Ju k=n by rw[u];exact G.out);clear u;go_wp2;go_ret;exact⟨by rw[<-m.out];rfl,rfl⟩
