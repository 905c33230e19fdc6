/- Counts as plain data; the reference's counts as they lie; its Get, Ref, Unref, Fresh, Firs -/
import Derived.Test.YtloolbmdiimanaaGreatDoorGv3
import Derived.Test.YtloolbmdiimanaaGreatDoorGv4
import Derived.Deep.RegionHeld3
namespace Go.Proofs.YtloolbmdiimanaaGreatDoor
open Go Go.RowKit Go.Proofs Tryz
set_option maxHeartbeats 4000000
set_option maxRecDepth 10000
def cv (x:Int):Value:=.int .i64 x
theorem qyg (l:LI):∀u∈l.map cv,u.oneCell'=true:=by
 intro u d;obtain⟨_,_,rfl⟩:=List.mem_map.1 d;rfl
def nm (l:LI)(k:Nat):Int:=l.getD k 0
theorem q66 (l:LI)(k:Nat)(x:Int)(h:k<l.length):nm (l.set k x) k=x:=by simp[nm,h]
theorem q4n (l:LI)(k j:Nat)(x:Int)(h:k≠j):nm (l.set k x) j=nm l j:=by simp[nm,h]
structure Ct where
 now:LI
 done:LI
 same:done.length=now.length
def Ct.n (C:Ct):Nat:=C.now.length
def Ct.first (C:Ct):Nat:=2+2*Qj C.n
def Ct.get (C:Ct)(a:Int):Int:=if 0<=a/\a<(C.n:Int) then nm C.now a.toNat else 0
def Ct.put (C:Ct)(k:Nat)(x:Int):Ct:=⟨C.now.set k x,C.done,by rw[List.length_set];exact C.same⟩
def Ct.Y0 (C:Ct)(a:Int):Int:=if C.get a=0 then 1 else if C.get a=65535 then 7 else 0
def Ct.ref (C:Ct)(a:Int):Ct:=if C.Y0 a=0 then C.put a.toNat (C.get a+1) else C
def Ct.Jp (C:Ct)(a:Int):Int:=if C.get a=0 then 1 else 0
def Ct.Jv (C:Ct)(a:Int):Int:=if C.get a=0 then 0 else C.get a-1
def Ct.Qp (C:Ct)(a:Int):Ct:=if C.get a=0 then C else C.put a.toNat (C.get a-1)
def Ct.fresh (C:Ct)(a:Int):Bool:=if C.get a=0 then false else decide (nm C.done a.toNat=0)
def Ct.Gv (C:Ct)(k:Nat):Bool:=decide (nm C.now k=0/\nm C.done k=0)
def Ct.commit (C:Ct):Ct:=⟨C.now,C.now,rfl⟩
def Ct.ok (C:Ct):Prop:=(32<=C.n/\C.n<=2048)/\∀k,k<C.n->0<=nm C.now k/\nm C.now k<=65535
theorem Ct.Zv {C:Ct}(h:C.ok)(a:Int):0<=C.get a/\C.get a<=65535:=by
 unfold Ct.get;split
 ·exact h.2 _ (by omega)
 ·omega
theorem Ct.En {C:Ct}{a:Int}(h:¬C.get a=0):0<=a/\a<(C.n:Int)/\C.get a=nm C.now a.toNat:=by
 unfold Ct.get at h ⊢;split at h
 ·rename_i h2;rw[AA h2];exact⟨h2.1,h2.2,rfl⟩
 ·exact absurd rfl h
theorem Ct.Zg (C:Ct)(k:Nat)(x:Int):(C.put k x).n=C.n:=List.length_set
theorem Ct.Bq {C:Ct}(h:C.ok)(k:Nat)(x:Int)(h1:0<=x)(h2:x<=65535):(C.put k x).ok:=by
 refine⟨by rw[C.Zg];exact h.1,λj d=>?_⟩;rw[C.Zg] at d;show 0<=nm (C.now.set k x) j/\nm (C.now.set k x) j<=65535;by_cases f:k=j
 ·subst f;rw[q66 _ _ _ d];exact⟨h1,h2⟩
 ·rw[q4n _ _ _ _ f];exact h.2 j d
theorem Ct.Oo {C:Ct}(h:C.ok):C.commit.ok:=h
def Xc (w:WD)(g n c:Nat)(l:LI):Prop:=w.ownsRow 0 3 1 (.slice (some ⟨g,0,none⟩) n c) n (l.map cv)
section
variable {w w':WD}{g n c:Nat}{l:LI}
theorem Xc.len (h:Xc w g n c l):l.length=n:=by have:=h.1;simpa using this
theorem Xc.cap (h:Xc w g n c l):n<=c/\c<=maxLen:=by
 rcases h.2 with⟨d,_⟩|⟨y,cap,m,d,_,_,h1,h2,_⟩
 ·injection d with f;cases f
 ·injection d with f p u;omega
theorem Xc.lt (h:Xc w g n c l):g<w.1.size:=by
 rcases h.2 with⟨f,_⟩|⟨u,cap,m,f,_,p,_⟩
 ·injection f with d;cases d
 ·injection f with d;injection d with d;injection d with d;subst d;exact (Array.getElem?_eq_some_iff.1 p).1
theorem Xc.keep (h:Xc w g n c l)(hk:w'.1[g]?=w.1[g]?):Xc w' g n c l:=q2v h λq d=>by
 have:q=g:=by
  have:(Value.slice (some ⟨g,0,none⟩) n c).ownBlock=some g:=rfl;rw[this] at d;exact (OI d).symm
 rw[this];exact hk
theorem Xc.at_ (h:Xc w g n c l){j:Nat}(hj:j<n):w.cell? ⟨g,j,none⟩=some (.int .i64 (nm l j))/\w.frozen? ⟨g,j,none⟩=false:=by
 have d:=h.len;refine⟨?_,World.ownsRow.frozenAt h j⟩;rw[World.ownsRow.cellAt h j (by omega),BA,AC (by omega)];unfold nm;rw[AG,AC (by omega)];rfl
theorem Xc.G7 (h:Xc w g n c l)(j:Nat)(x:Int):Xc (w.setCell ⟨g,j,none⟩ (.int .i64 x)) g n c (l.set j x):=by
 unfold Xc;rw[List.map_set];exact (World.ownsRow.stored h j (cv x)).1
end
def RC (w:WD)(p:Nat)(S:NP)(C:Ct):Prop:=∃(a d b f:Nat) (t:TypeId),w.1[p]?=some (.cells #[.slice (some ⟨a,0,none⟩) C.n d,.slice (some ⟨b,0,none⟩) C.n f] t (0,0))/\Xc w a C.n d C.now/\Xc w b C.n f C.done/\(a≠b/\p≠a/\p≠b)/\(S p/\S a/\S b)/\C.ok
theorem RC.ok {w:WD}{p:Nat}{S:NP}{C:Ct}(h:RC w p S C):C.ok:=by
 obtain⟨_,_,_,_,_,_,_,_,_,_,h⟩:=h;exact h
theorem RC.mono {w:WD}{p:Nat}{S S':NP}{C:Ct}(h:RC w p S C)(hs:∀k,S k->S' k):RC w p S' C:=by
 obtain⟨a,f,b,m,t,h1,h2,u,y,d,A⟩:=h;exact⟨a,f,b,m,t,h1,h2,u,y,⟨hs _ d.1,hs _ d.2.1,hs _ d.2.2⟩,A⟩
def Ct.may (C:Ct)(j:Nat):Bool:=decide (C.first<=j)&&C.Gv j
def Ct.pick (C:Ct):Option Nat:=(List.range C.n).find? C.may
def Ct.Kt (C:Ct):Int:=match C.pick with|some _=>0|none=>6
def Ct.Ku (C:Ct):Int:=match C.pick with|some k=>(k:Int)|none=>0
def Ct.alloc (C:Ct):Ct:=match C.pick with|some k=>C.put k 1|none=>C
def Ct.Vs (C:Ct)(k:Nat):Nat:=(List.range k).countP C.may
def Ct.free (C:Ct):Nat:=C.Vs C.n
theorem Ct.Oz {C:Ct}{k:Nat}(hk:k<C.n)(h:C.may k=true)(hall:∀j,j<k->C.may j=false):C.pick=some k:=by
 unfold Ct.pick;rw[List.find?_range_eq_some];exact⟨h,List.mem_range.2 hk,λj d=>by rw[hall j d];rfl⟩
theorem Ct.Oy {C:Ct}(hall:∀j,j<C.n->C.may j=false):C.pick=none:=by
 unfold Ct.pick;rw[List.find?_eq_none];intro j d;rw[hall j (List.mem_range.1 d)];simp
theorem Ct.Jf {C:Ct}{k:Nat}(h:C.pick=some k):C.Kt=0/\C.Ku=(k:Int)/\C.alloc=C.put k 1:=by
 unfold Ct.Kt Ct.Ku Ct.alloc;rw[h];exact⟨rfl,rfl,rfl⟩
theorem Ct.Y9 {C:Ct}(h:C.pick=none):C.Kt=6/\C.Ku=0/\C.alloc=C:=by
 unfold Ct.Kt Ct.Ku Ct.alloc;rw[h];exact⟨rfl,rfl,rfl⟩
theorem Ct.Ac (C:Ct)(k:Nat):C.Vs (k+1)=C.Vs k+(if C.may k=true then 1 else 0):=by
 unfold Ct.Vs;rw[List.range_succ,List.countP_append,List.countP_singleton]
structure Qcp (P:Program)(t e:TypeId):Prop where
 sl:P.underlying t=some (.slice e)
 info:(P.info? e).map (λi=>(i.zero,i.size,i.bytes))=some (some (.int .i64 0),1,8)
theorem TN:Qcp prog 30 3:=⟨underlying30,by kernel_rfl⟩
section
variable {P:Program}{t e:TypeId}(w:WD)
end
theorem Xc.cells {w:WD}{g n c:Nat}{l:LI}(h:Xc w g n c l):∀(j:Nat) u,(l.map cv)[j]?=some u->w.cell? ((⟨g,0,none⟩:Addr).add j)=some u:=λj u d=>by
 have f:j<n:=by have:=(List.getElem?_eq_some_iff.1 d).1;rw[AF,h.len] at this;exact this
 rw[Addr.add_mid,AT,World.ownsRow.cellAt h j (by omega),d]
def Ct.zero (n:Nat):Ct:=⟨List.replicate n 0,List.replicate n 0,rfl⟩
theorem Ct.Zc (n:Nat):(Ct.zero n).n=n:=BK
theorem Ct.Aq {n:Nat}(h1:32<=n)(h2:n<=2048):(Ct.zero n).ok:=by
 refine⟨by rw[Ct.Zc];exact⟨h1,h2⟩,λk d=>?_⟩;rw[Ct.Zc] at d;show 0<=nm (List.replicate n 0) k/\nm (List.replicate n 0) k<=65535;unfold nm;simp[d]
section
variable {P:Program}{t e:TypeId}(w:WD)
theorem qt3 (n:Nat):(madeCells (Value.int .i64 0).cells (n*1)).toList=(List.replicate n (0:Int)).map cv:=by
 rw[show (Value.int .i64 0).cells=#[.int .i64 0] from rfl,Nat.mul_one,toList_madeCells_one];simp[cv]
end
def mkI (a b:Value):Sem Value:=Instr.makeSlice 30 a b
theorem qjo (a b:Value):Instr.makeSlice 30 a b=mkI a b:=rfl
def Ue (n:Nat)(w:WD):WD:=w.alloc (.cells (madeCells #[.int .i64 0] (n*1)) 3)
theorem qog (n:Nat)(hn:n<=1000000)(w:WD):(mkI (.int .i64 (n:Int)) (.int .i64 (n:Int))).run prog w=.ok (.slice (some ⟨w.1.size,0,none⟩) n n) (Ue n w):=by
 obtain⟨i,hi,f,d,m⟩:=info_parts TN.info;have h:=run_makeSlice (P:=prog) w 30 3 i _ TN.sl hi f .i64 .i64 n n (by omega) (by omega) (by rw[d,AJ];omega) (by rw[m];omega) (by omega);rw[d] at h;exact h
theorem qjp (n:Nat)(hn:n<=1000000)(w:WD):Xc (Ue n w) w.1.size n n (List.replicate n 0):=by
 have hm:(madeCells #[.int .i64 0] (n*1)).toList=(List.replicate n (0:Int)).map cv:=qt3 n;have d:=congrArg List.length hm;rw[Array.length_toList,AF,BK] at d;refine⟨by rw[AF,BK,Nat.mul_one],.inr ⟨w.1.size,n,_,rfl,AW _,BE w _,AE _,by unfold maxLen;omega,by rw[d,Nat.mul_one],?_⟩⟩;rw[hm,AN (by rw[AF,BK,Nat.mul_one];exact AE _)]
theorem qc9 (n base:Nat)(w:WD)(h:base<=w.1.size):Below base w (Ue n w):=(AI _ _).alloc h _
theorem q3k (n:Nat)(w:WD):(Ue n w).1.size=w.1.size+1:=by simp[Ue]
section
attribute [local go_sem ↓] qjo
end
def Ct.Zq (C:Ct)(m:Int):Nat->LU
 |0=>[]
 |k+1=>C.Zq m k++Q8 (C.get (m+(k:Int))) 2
theorem Ct.J6 (C:Ct)(m:Int)(k:Nat):(C.Zq m k).length=2*k:=by
 induction k with
 |zero=>rfl
 |succ k ih=>show (C.Zq m k++Q8 _ 2).length=_;rw[AD,ih,Xz];omega
def Ct.body (C:Ct)(i:Int):LU:=if 0<=i/\i<(Qj C.n:Int) then C.Zq (i*118) 118 else []
section
def Fq (l:LU)(k:Nat):Int:=Qq ((l.drop (2*k)).take 2)
def Yq (n f i:Nat)(l:LU)(k:Nat):Bool:=decide (Fq l k≠0/\(i*118+k<f\/n<=i*118+k))
def Yj (n i:Nat)(l:LU)(C:Ct):Nat->Ct
 |0=>C
 |k+1=>if i*118+k<n then (Yj n i l C k).put (i*118+k) (Fq l k) else Yj n i l C k
def q4o (n f i:Nat)(l:LU):Prop:=l.length=236/\∀k,k<118->Yq n f i l k=false
def Yx (n:Nat)(d:List (LU)):Nat->Ct
 |0=>Ct.zero n
 |i+1=>Yj n i (nth d i) (Yx n d i) 118
open Classical in
noncomputable def J8 (n:Int) (d:List (LU)):Int:=if ¬(32<=n/\n<=2048) then 1 else if d.length≠Qj n.toNat\/¬∀i,i<Qj n.toNat->q4o n.toNat (2+2*Qj n.toNat) i (nth d i) then 3 else 0
def Vy (n:Nat)(d:List (LU)):Ct:=(Yx n d (Qj n)).commit
theorem qhw (n i:Nat)(l:LU)(C:Ct)(k:Nat):(Yj n i l C k).n=C.n:=by
 induction k with
 |zero=>rfl
 |succ k ih=>unfold Yj;split;rw[Ct.Zg,ih];exact ih
theorem qa7 (n:Nat)(d:List (LU))(i:Nat):(Yx n d i).n=n:=by
 induction i with
 |zero=>exact Ct.Zc n
 |succ i ih=>exact (qhw _ _ _ _ _).trans ih
end
theorem qhx (C:Ct)(m:Int)(n k:Nat)(h:k<n):((C.Zq m n).drop (2*k)).take 2=Q8 (C.get (m+(k:Int))) 2:=by
 induction n with
 |zero=>omega
 |succ n ih=>
  show ((C.Zq m n++Q8 (C.get (m+(n:Int))) 2).drop (2*k)).take 2=_;by_cases d:k<n
  ·rw[List.drop_append_of_le_length (by rw[C.J6];omega),List.take_append_of_le_length (by rw[AS,C.J6];omega)];exact ih d
  ·obtain rfl:k=n:=by omega
   rw[List.drop_append,List.drop_eq_nil_of_le (by rw[C.J6];omega),C.J6,Nat.sub_self,BG,List.drop_zero,AN (by rw[Xz];omega)]
theorem Ct.Sm {C:Ct}(h:C.ok){i k:Nat}(hi:i<Qj C.n)(hk:k<118):Fq (C.body (i:Int)) k=C.get ((i:Int)*118+(k:Int)):=by
 have d:C.body (i:Int)=C.Zq ((i:Int)*118) 118:=by unfold Ct.body;rw[AA ⟨by omega,by omega⟩]
 unfold Fq;rw[d,qhx C _ 118 k hk];have h1:=C.Zv h ((i:Int)*118+(k:Int));exact q6s _ 2 h1.1 (by have:=h1.2;simp;omega)
theorem Ct.Uk {C:Ct}{i:Nat}(hi:i<Qj C.n):(C.body (i:Int)).length=236:=by
 unfold Ct.body;rw[AA ⟨by omega,by omega⟩,C.J6]
theorem q67 (C:Ct)(k:Nat)(x:Int)(a:Nat)(d:a<C.n):nm (C.put k x).now a=if a=k then x else nm C.now a:=by
 show nm (C.now.set k x) a=_;by_cases h:a=k
 ·subst h;rw[AA rfl,q66 _ _ _ d]
 ·rw[AB h,q4n _ _ _ _ (λe=>h e.symm)]
theorem qfm (i:Nat)(l:LU)(C:Ct)(k a:Nat)(f:a<C.n):nm (Yj C.n i l C k).now a=if i*118<=a/\a<i*118+k then Fq l (a-i*118) else nm C.now a:=by
 induction k with
 |zero=>rw[AB (by omega)];rfl
 |succ k ih=>
  unfold Yj;by_cases d:i*118+k<C.n
  ·rw[AA d,q67 _ _ _ _ (by rw[qhw];exact f),ih];by_cases e:a=i*118+k
   ·rw[AA e,AA (by omega),show a-i*118=k by omega]
   ·rw[AB e];by_cases h2:i*118<=a/\a<i*118+k
    ·rw[AA h2,AA (by omega)]
    ·rw[AB h2,AB (by omega)]
  ·rw[AB d,ih];by_cases h2:i*118<=a/\a<i*118+k
   ·rw[AA h2,AA (by omega)]
   ·rw[AB h2,AB (by omega)]
theorem qa8 (n:Nat)(d:List (LU))(i a:Nat)(f:a<n):nm (Yx n d i).now a=if a<i*118 then Fq (nth d (a / 118)) (a % 118) else 0:=by
 induction i with
 |zero=>
  rw[AB (by omega)];show nm (List.replicate n 0) a=0;unfold nm;simp[f]
 |succ i ih=>
  have h:=qfm i (nth d i) (Yx n d i) 118 a (by rw[qa7];exact f);rw[qa7,ih] at h;refine (show nm (Yx n d (i+1)).now a=_ from h).trans ?_;by_cases h1:i*118<=a/\a<i*118+118
  ·rw[AA h1,AA (by omega),show a / 118=i by omega,show a % 118=a-i*118 by omega]
  ·rw[AB h1];by_cases h2:a<i*118
   ·rw[AA h2,AA (by omega)]
   ·rw[AB h2,AB (by omega)]
def Ct.res (C:Ct):Prop:=∀a,a<C.n->a<C.first->nm C.now a=0
def Ct.bodies (C:Ct):List (LU):=(List.range (Qj C.n)).map λ(i:Nat)=>C.body (i:Int)
theorem Ct.Dx (C:Ct){i:Nat}(h:i<Qj C.n):nth C.bodies i=C.body (i:Int):=by
 unfold nth Ct.bodies;rw[AG,BA,List.getElem?_range h];rfl
theorem Ct.Ol {C:Ct}(h:C.ok)(hr:C.res){i:Nat}(hi:i<Qj C.n):q4o C.n (2+2*Qj C.n) i (nth C.bodies i):=by
 rw[C.Dx hi];refine⟨Ct.Uk hi,λk d=>?_⟩;unfold Yq;rw[Ct.Sm h hi d];refine AH ?_;rintro⟨h1,h2⟩;refine h1 ?_;unfold Ct.get;split
 ·rename_i f;have e:((i:Int)*118+(k:Int)).toNat=i*118+k:=by omega
  rw[e];rcases h2 with h2|h2
  ·exact hr _ (by omega) h2
  ·omega
 ·rfl
theorem Ct.Lr {C:Ct}(h:C.ok)(hr:C.res):J8 (C.n:Int) C.bodies=0/\Vy C.n C.bodies=C.commit:=by
 have B:C.bodies.length=Qj C.n:=by unfold Ct.bodies;rw[AF,List.length_range]
 constructor
 ·unfold J8;rw[AJ,AB (λe=>e (by have:=h.1;omega)),AB];rintro (e|e)
  ·exact e B
  ·exact e λi hi=>Ct.Ol h hr hi
 ·have p:(Yx C.n C.bodies (Qj C.n)).now=C.now:=by
   have h1:(Yx C.n C.bodies (Qj C.n)).now.length=C.now.length:=qa7 _ _ _;refine List.ext_getElem h1 λa u f=>?_
   have A:a<C.n:=f;have d:=qa8 C.n C.bodies (Qj C.n) a A;have m:a / 118<Qj C.n:=by unfold Qj;omega
   rw[AA (by unfold Qj;omega),C.Dx m,Ct.Sm h m (Nat.mod_lt _ (by omega))] at d;have y:((a / 118:Nat):Int)*118+((a % 118:Nat):Int)=(a:Int):=by omega
   rw[y] at d;unfold Ct.get at d;rw[AA ⟨by omega,by omega⟩,AJ] at d;unfold nm at d;simpa [u,f] using d
  unfold Vy Ct.commit;simp only[p]
theorem Ct.Bd {C D:Ct}(h:D.n=C.n):D.first=C.first:=by unfold Ct.first;rw[h]
theorem Ct.Ak {C:Ct}(h:C.res){k:Nat}(x:Int)(hk:C.first<=k):(C.put k x).res:=λa d f=>by
 rw[C.Zg] at d;rw[Ct.Bd (C.Zg k x)] at f;rw[q67 C k x a d,AB (by omega)];exact h a d f
theorem Ct.Vt {C:Ct}(h:C.res){a:Int}(hg:¬C.get a=0):0<=a/\a<(C.n:Int)/\C.first<=a.toNat:=by
 obtain⟨h1,h2,f⟩:=Ct.En hg;refine⟨h1,h2,?_⟩;rcases Nat.lt_or_ge a.toNat C.first with d|d
 ·exact absurd (f.trans (h a.toNat (by omega) d)) hg
 ·exact d
theorem Ct.Ju {C:Ct}{k:Nat}(h:C.pick=some k):k<C.n/\C.first<=k/\nm C.now k=0/\nm C.done k=0/\∀j,j<k->C.may j=false:=by
 unfold Ct.pick at h;rw[List.find?_range_eq_some] at h;obtain⟨h1,h2,d⟩:=h;unfold Ct.may Ct.Gv at h1;rw[BN,decide_eq_true_iff,decide_eq_true_iff] at h1;exact⟨List.mem_range.1 h2,h1.1,h1.2.1,h1.2.2,λj f=>by have:=d j f;simpa using this⟩
theorem Ct.Tm {C:Ct}(h:C.pick=none):∀j,j<C.n->C.may j=false:=λj d=>by
 unfold Ct.pick at h;rw[List.find?_eq_none] at h;have:=h j (List.mem_range.2 d);simpa using this
theorem Ct.Yh {C:Ct}(h:C.pick=none):C.free=0:=by
 unfold Ct.free Ct.Vs;rw[List.countP_eq_zero];intro j d;rw[Ct.Tm h j (List.mem_range.1 d)];simp
theorem Ct.Ei (C:Ct):C.alloc.n=C.n:=by unfold Ct.alloc;split;exact C.Zg _ _;rfl
theorem Ct.Qa0 (C:Ct)(a:Int):(C.ref a).n=C.n:=by unfold Ct.ref;split;exact C.Zg _ _;rfl
theorem Ct.E8 (C:Ct)(a:Int):(C.Qp a).n=C.n:=by unfold Ct.Qp;split;rfl;exact C.Zg _ _
theorem Ct.Ry {C:Ct}(h:C.ok):C.alloc.ok:=by unfold Ct.alloc;split;exact Ct.Bq h _ _ (by omega) (by omega);exact h
theorem Ct.Oi {C:Ct}(h:C.res):C.alloc.res:=by
 unfold Ct.alloc;split
 ·rename_i k d;exact Ct.Ak h _ (Ct.Ju d).2.1
 ·exact h
theorem Ct.Qaq {C:Ct}(h:C.res)(a:Int):(C.ref a).res:=by
 unfold Ct.ref;split
 ·rename_i d;have f:¬C.get a=0:=λe=>by unfold Ct.Y0 at d;rw[AA e] at d;omega
  exact Ct.Ak h _ (Ct.Vt h f).2.2
 ·exact h
theorem Ct.Po {C:Ct}(h:C.res)(a:Int):(C.Qp a).res:=by
 unfold Ct.Qp;split
 ·exact h
 ·rename_i d;exact Ct.Ak h _ (Ct.Vt h d).2.2
theorem Ct.Qap {C:Ct}(h:C.ok)(a:Int):(C.ref a).ok:=by
 unfold Ct.ref;split
 ·rename_i d;have f:=C.Zv h a;refine Ct.Bq h _ _ (by omega) ?_;unfold Ct.Y0 at d;split at d
  ·omega
  ·split at d<;>omega
 ·exact h
theorem Ct.Pn {C:Ct}(h:C.ok)(a:Int):(C.Qp a).ok:=by
 unfold Ct.Qp;split
 ·exact h
 ·have d:=C.Zv h a;exact Ct.Bq h _ _ (by omega) (by omega)
theorem Ct.Iw (n:Nat):(Ct.zero n).res:=λa d _=>by
 rw[Ct.Zc] at d;show nm (List.replicate n 0) a=0;unfold nm;simp[d]
theorem Ct.Md (C:Ct)(j:Nat):C.may j=decide (C.first<=j/\nm C.now j=0/\nm C.done j=0):=by
 unfold Ct.may Ct.Gv;rw[Bool.eq_iff_iff];simp
def Yu (w:WD)(p o:Nat)(S:NP)(C:Ct):Prop:=∃(a f b m:Nat) (t:TypeId) (d:Array Value),w.1[p]?=some (.cells d t (0,0))/\(d[o]?=some (.slice (some ⟨a,0,none⟩) C.n f)/\d[o+1]?=some (.slice (some ⟨b,0,none⟩) C.n m)/\d[o+2]?=some (.int .i64 (Qj C.n:Int))/\d[o+3]?=some (.int .i64 (C.first:Int)))/\Xc w a C.n f C.now/\Xc w b C.n m C.done/\(a≠b/\p≠a/\p≠b)/\(S a/\S b)/\C.ok
theorem q39 {w:WD}{p k:Nat}{d:Array Value}{t:TypeId}{v:Value}(h:w.1[p]?=some (.cells d t (0,0)))(f:d[k]?=some v):w.cell? ⟨p,k,none⟩=some v:=by rw[cell_of_row _ _ _ _ _ _ h];exact f
theorem Yu.ok {w:WD}{p o:Nat}{S:NP}{C:Ct}(h:Yu w p o S C):C.ok:=by
 obtain⟨_,_,_,_,_,_,_,_,_,_,_,_,h⟩:=h;exact h
theorem Yu.lt {w:WD}{p o:Nat}{S:NP}{C:Ct}(h:Yu w p o S C):p<w.1.size:=by
 obtain⟨_,_,_,_,_,_,h,_⟩:=h;exact (Array.getElem?_eq_some_iff.1 h).1
theorem Yu.keep {w w':WD}{p o:Nat}{S:NP}{C:Ct}(h:Yu w p o S C)(hp:w'.1[p]?=w.1[p]?)(hk:∀k,k<w.1.size->S k->w'.1[k]?=w.1[k]?):Yu w' p o S C:=by
 obtain⟨a,u,b,y,t,d,h1,D,h2,m,A,f,B⟩:=h;exact⟨a,u,b,y,t,d,hp.trans h1,D,h2.keep (hk a h2.lt f.1),m.keep (hk b m.lt f.2),A,f,B⟩
theorem Yu.mono {w:WD}{p o:Nat}{S S':NP}{C:Ct}(h:Yu w p o S C)(hs:∀k,S k->S' k):Yu w p o S' C:=by
 obtain⟨a,m,b,u,t,d,h1,D,h2,y,A,f,B⟩:=h;exact⟨a,m,b,u,t,d,h1,D,h2,y,A,⟨hs _ f.1,hs _ f.2⟩,B⟩
theorem Yu.below {w w':WD}{p o:Nat}{S:NP}{C:Ct}(h:Yu w p o S C)(hb:Below w.1.size w w'):Yu w' p o S C:=h.keep (hb.block p h.lt) λk d _=>hb.block k d
theorem Yu.shrink {w:WD}{p o:Nat}{S:NP}{C:Ct}(h:Yu w p o S C):Yu w p o (λk=>S k/\k<w.1.size) C:=by
 obtain⟨a,u,b,y,t,d,h1,D,h2,f,A,m,B⟩:=h;exact⟨a,u,b,y,t,d,h1,D,h2,f,A,⟨⟨m.1,h2.lt⟩,⟨m.2,f.lt⟩⟩,B⟩
theorem Yu.around {w w':WD}{p o p' o':Nat}{S:NP}{C:Ct}{cur cur':Array Value}{t t':TypeId}(h:Yu w p o S C)(hp:w.1[p]?=some (.cells cur t (0,0)))(hp':w'.1[p']?=some (.cells cur' t' (0,0)))
  (hc:∀j,j<4->cur'[o'+j]?=cur[o+j]?) (hne:∀k,S k->p'≠k) (hk:∀k,k<w.1.size->S k->w'.1[k]?=w.1[k]?):Yu w' p' o' S C:=by
 obtain⟨a,y,b,A,t,m,h1,f,h2,u,B,d,D⟩:=h;rw[hp] at h1;injection h1 with h1;injection h1 with h1 _ _;subst h1;exact⟨a,y,b,A,t',cur',hp',⟨(hc 0 (by omega)).trans f.1,(hc 1 (by omega)).trans f.2.1,(hc 2 (by omega)).trans f.2.2.1,(hc 3 (by omega)).trans f.2.2.2⟩,h2.keep (hk a h2.lt d.1),u.keep (hk b u.lt d.2),⟨B.1,hne a d.1,hne b d.2⟩,d,D⟩
theorem Yu.open_ {w:WD}{p o:Nat}{S:NP}{C:Ct}(H:Yu w p o S C):∃g d b f:Nat,w.cell? ⟨p,o,none⟩=some (.slice (some ⟨g,0,none⟩) C.n d)/\w.cell? ⟨p,o+1,none⟩=some (.slice (some ⟨b,0,none⟩) C.n f)/\w.cell? ⟨p,o+2,none⟩=some (.int .i64 (Qj C.n:Int))/\w.cell? ⟨p,o+3,none⟩=some (.int .i64 (C.first:Int))/\
  (C.n<=d/\d<=9223372036854775807)/\(C.n<=f/\f<=9223372036854775807)/\(∀k,k<C.n->w.cell? ⟨g,k,none⟩=some (.int .i64 (nm C.now k))/\w.frozen? ⟨g,k,none⟩=false)/\(∀k,k<C.n->w.cell? ⟨b,k,none⟩=some (.int .i64 (nm C.done k)))/\
  (∀(k:Nat) (x:Int),k<C.n->0<=x->x<=65535->Yu (w.setCell ⟨g,k,none⟩ (.int .i64 x)) p o S (C.put k x)/\Turn S w (w.setCell ⟨g,k,none⟩ (.int .i64 x))/\(w.setCell ⟨g,k,none⟩ (.int .i64 x)).cell? ⟨p,o,none⟩=some (.slice (some ⟨g,0,none⟩) C.n d)/\(w.setCell ⟨g,k,none⟩ (.int .i64 x)).cell? ⟨g,k,none⟩=some (.int .i64 x)):=by
 obtain⟨g,d,b,f,t,u,h1,⟨E,M,O,Q⟩,h2,y,A,F,R⟩:=H;have J:=h2.cap;have K:=y.cap;unfold maxLen at J K;refine⟨g,d,b,f,q39 h1 E,q39 h1 M,q39 h1 O,q39 h1 Q,⟨J.1,by omega⟩,⟨K.1,by omega⟩,λk m=>h2.at_ m,λk m=>(y.at_ m).1,λk x m B D=>?_⟩;have e:∀j,j≠g->(w.setCell ⟨g,k,none⟩ (.int .i64 x)).1[j]?=w.1[j]?:=λj U=>Below.heap_setCell _ _ _ _ (by show j≠g;exact U)
 have I:=(e p A.2.1).trans h1;have G:=h2.G7 k x;have T:(C.put k x).first=C.first:=by unfold Ct.first;rw[C.Zg]
 refine⟨⟨g,d,b,f,t,u,I,?_,?_,?_,A,F,C.Bq R k x B D⟩,Cc (a:=⟨g,k,none⟩) _ F.1,q39 I E,?_⟩
 ·rw[C.Zg,T];exact⟨E,M,O,Q⟩
 ·rw[C.Zg];exact G
 ·rw[C.Zg];exact y.keep (e b (Ne.symm A.1))
 ·have:=(G.at_ m).1;rw[q66 _ _ _ (by rw[h2.len];exact m)] at this;exact this
theorem q2j {w:WD}{p o:Nat}{S:NP}{C:Ct}(H:Yu w p o S C)(a x:Int)(A:C.get a=x) :
  Calls prog 66 #[.pointer (some ⟨p,o,none⟩),.int .i64 a] w λe w'=>e=.returned (.int .i64 x)/\w=w':=by
 obtain⟨g,G,b,F,c0,c1,c2,c3,K,M,f,m,y⟩:=H.open_;have u:=HI f;clear f m y c1 c2 c3;by_cases h0:0<=a
 ·obtain⟨k,rfl⟩:=Int.eq_ofNat_of_zero_le h0;by_cases E:k<C.n
  ·have d:=HI (show x=nm C.now k by rw[<-A];unfold Ct.get;rw[AA (by omega)];rfl);obtain⟨J,_⟩:=u.out k E;have B:¬(k:Int)<0:=by omega
   have D:¬(C.n:Int)<=(k:Int):=by omega
   have I:(k:Int)<(C.n:Int):=by omega
   go_enter func66,ntmps66
   go_wp2;go_ret;exact⟨by rw[d.out];rfl,rfl⟩
  ·have d:=HI (show x=0 by rw[<-A];unfold Ct.get;rw[AB (by omega)]);have B:¬(k:Int)<0:=by omega
   have D:(C.n:Int)<=(k:Int):=by omega
   go_enter func66,ntmps66
   go_wp2;go_ret;exact⟨by rw[d.out];rfl,rfl⟩
 ·have d:=HI (show x=0 by rw[<-A];unfold Ct.get;rw[AB (by omega)]);have B:a<0:=by omega
  go_enter func66,ntmps66
  go_wp2;go_ret;exact⟨by rw[d.out];rfl,rfl⟩
def Ct.counted (C:Ct)(a:Nat):Bool:=decide (C.first<=a/\a<C.n)
theorem q29 {w:WD}{p o:Nat}{S:NP}{C:Ct}(H:Yu w p o S C)(a:Nat)(r:Bool)(E:C.counted a=r) :
  Calls prog 58 #[.pointer (some ⟨p,o,none⟩),.int .i64 (a:Int)] w λe w'=>e=.returned (.bool r)/\w=w':=by
 obtain⟨g,I,b,G,c0,c1,c2,c3,J,K,y,d,A⟩:=H.open_;clear y d A c1 c2;obtain⟨f,B⟩:∃f,C.first=f:=⟨_,rfl⟩
 have m:=HI (show r=decide (f<=a/\a<C.n) by rw[<-E,<-B];rfl);rw[B] at c3;clear B E;by_cases h1:f<=a
 ·by_cases h2:a<C.n
  ·have u:=HI (show r=true by rw[m.out];exact AL ⟨h1,h2⟩);have D:(f:Int)<=(a:Int):=by omega
   have F:(a:Int)<(C.n:Int):=by omega
   go_enter func58,ntmps58
   go_wp2;go_ret;exact⟨by rw[u.out];rfl,rfl⟩
  ·have u:=HI (show r=false by rw[m.out];exact AH λh=>h2 h.2);have D:(f:Int)<=(a:Int):=by omega
   have F:¬(a:Int)<(C.n:Int):=by omega
   go_enter func58,ntmps58
   go_wp2;go_ret;exact⟨by rw[u.out];rfl,rfl⟩
 ·have u:=HI (show r=false by rw[m.out];exact AH λh=>h1 h.1);have D:¬(f:Int)<=(a:Int):=by omega
  go_enter func58,ntmps58
  go_wp2;go_ret;exact⟨by rw[u.out];rfl,rfl⟩
theorem qoh {w:WD}{p o:Nat}{S:NP}{C:Ct}(H:Yu w p o S C)(k:Nat)(B:k<C.n)(r:Bool)(F:C.may k=r) :
  Calls prog 32 #[.pointer (some ⟨p,o,none⟩),.int .i64 (k:Int)] w λe w'=>e=.returned (.bool r)/\w=w':=by
 obtain⟨g,K,b,J,c0,c1,c2,c3,R,T,u,d,A⟩:=H.open_;obtain⟨I,_⟩:=u k B;have hd:=d k B;clear u d A c2 c3;obtain⟨x,D⟩:∃x,nm C.now k=x:=⟨_,rfl⟩;obtain⟨y,E⟩:∃y,nm C.done k=y:=⟨_,rfl⟩;have hm:=HI (show r=(decide (C.first<=k)&&decide (x=0/\y=0)) by rw[<-F,<-D,<-E];rfl);rw[D] at I;rw[E] at hd;clear D E F;have M:(k:Int)<(C.n:Int):=by omega
 have O:¬(C.n:Int)<=(k:Int):=by omega
 by_cases h1:C.first<=k
 ·have f:=HI (show C.counted k=true from AL ⟨h1,B⟩);have hm:=HI (show r=decide (x=0/\y=0) by rw[hm.out,AL h1,Bool.true_and]);clear h1;by_cases m:x=0
  ·have hm:=HI (show r=decide (y=0) by rw[hm.out];simp[m]);subst m;go_enter func32,ntmps32
   go_wp2_with fail
   refine (q29 H k true f.out).mono ?_;rintro e G ⟨rfl,rfl⟩;go_wp2;go_ret;exact⟨by rw[hm.out];first|rfl|(refine congrArg (λx=>Ending.returned (Value.bool x)) ?_;rw[Bool.eq_iff_iff];simp),rfl⟩
  ·have hm:=HI (show r=false by rw[hm.out];exact AH λh=>m h.1);have Q:(x==0)=false:=by simpa using m
   go_enter func32,ntmps32
   go_wp2_with fail
   refine (q29 H k true f.out).mono ?_;rintro e G ⟨rfl,rfl⟩;go_wp2;go_ret;exact⟨by rw[hm.out];rfl,rfl⟩
 ·have f:=HI (show C.counted k=false from AH λh=>h1 h.1);have hm:=HI (show r=false by rw[hm.out,AH h1,Bool.false_and]);clear h1;go_enter func32,ntmps32
  go_wp2_with fail
  refine (q29 H k false f.out).mono ?_;rintro e G ⟨rfl,rfl⟩;go_wp2;go_ret;exact⟨by rw[hm.out];rfl,rfl⟩
theorem Qbc (x:Int)(w:WD) :
  Calls prog 65 #[.slice none 0 0,.int .i64 x,.int .i64 2] w λe w'=>∃d f,e=.returned (.slice d 2 f)/\Sl w' d 2 f (Q8 x 2)/\Below w.1.size w w':=by
 have m:=q7r none 0 0 [] x 2 w (G6 w) (by omega);rw[show G5 [] x 2=Q8 x 2 from rfl] at m;refine m.mono ?_;rintro e w' ⟨d,y,f,rfl,own,u⟩;have p:=own.len;rw[Xz] at p;subst p;exact⟨d,f,rfl,own.sl,u⟩
theorem qfn {w:WD}{p o:Nat}{S:NP}{C:Ct}(H:Yu w p o S C)(i:Int) :
  Calls prog 39 #[.pointer (some ⟨p,o,none⟩),.int .i64 i] w λe w'=>∃A n c,e=.returned (.slice A n c)/\Sl w' A n c (C.body i)/\Below w.1.size w w'/\∀B,A=some B->w.1.size<=B.block:=by
 obtain⟨many,hm⟩:∃m,Qj C.n=m:=⟨_,rfl⟩;have a2:=H.ok.1;have a1:many<=1000:=by rw[<-hm];unfold Qj;omega
 obtain⟨g,cg,b,cb,c0,c1,c2,c3,k1,k2,J,y,K⟩:=H.open_;clear J y K c1 c0 c3 k1 k2;rw[hm] at c2;have Y:=HI hm;clear hm;by_cases hi:0<=i/\i<(many:Int)
 ·have d:=HI (show C.body i=C.Zq (i*118) 118 by unfold Ct.body;rw[Y.out,AA hi]);obtain⟨q,rfl⟩:=Int.eq_ofNat_of_zero_le hi.1;have e1:¬(q:Int)<0:=by omega
  have e2:¬(many:Int)<=(q:Int):=by omega
  have hq:q<many:=by omega
  have d1:decide ((q:Int)<0)=false:=by simp
  have d2:decide ((many:Int)<=(q:Int))=false:=by simp;omega
  have d3:decide (many<=q)=false:=by simp;omega
  go_enter func39,ntmps39
  go_wp2_with (first
   |(at_make;refine qf9 _ Cb rfl _ _ rfl _ _ 236 rfl rfl (by omega) ?_)
   |fail)
  intro w1 Ox G;go_wp2_with fail
  go_loopw [5,6,18] (λb _ k wr=>∃(j:Nat) (O:OA) (Q:Nat),j<=118/\k=.int .i64 (j:Int)/\b=.slice O (2*j) Q/\Own wr w.1.size 5 O (2*j) Q (C.Zq ((q:Int)*118) j)/\Below w.1.size w wr) (λ_ _ k _=>118-(intOf k).toNat)
  case atStart=>exact⟨0,_,_,by omega,rfl,rfl,Ox,G⟩
  case round=>
   clear Ox G;obtain⟨j,O,Q,hj,rfl,rfl,own,R⟩:=hrel;by_cases a0:j<118
   ·have Hr:=H.below R;have e3:(j:Int)<118:=by omega
    obtain⟨x,W⟩:∃x,C.get ((q:Int)*118+(j:Int))=x:=⟨_,rfl⟩;have u:=HI (show C.Zq ((q:Int)*118) (j+1)=C.Zq ((q:Int)*118) j++Q8 x 2 by rw[<-W];rfl);have Hx:=HI W;clear W c2;go_wp2_with fail
    refine (q2j Hr _ x Hx.out).mono ?_;rintro e w3 ⟨rfl,rfl⟩;go_wp2_with fail
    refine (Qbc x wr).mono ?_;rintro e w4 ⟨Z,c4,rfl,X,I⟩;have M:=own.below I;have F:=R.trans (I.mono R.size);go_wp2_with (at_builtin;refine q5z _ Cb rfl _ _ rfl w.1.size O (2*j) Q _ rfl M Z 2 c4 _ rfl X (by omega) F.size ?_)
    intro A5 c5 w5 f T;rw[<-u.out] at f;go_wp2;exact⟨⟨j+1,A5,c5,by omega,by go_num,rfl,f,F.trans T⟩,by simp[intOf];omega⟩
   ·have U:j=118:=by omega
    subst U;have E:=own.sl;have D:=λB e=>(own.block B e).1
    go_wp2;go_ret;rw[d.out];exact⟨_,_,_,rfl,E,R,D⟩
 ·have d:=HI (show C.body i=[] by unfold Ct.body;rw[Y.out,AB hi]);by_cases h0:i<0
  ·go_enter func39,ntmps39
   go_wp2;go_ret;rw[d.out];exact⟨_,_,_,rfl,G6 _,AI _ _,λB e=>by cases e⟩
  ·have e2:(many:Int)<=i:=by omega
   have e1:¬i<0:=h0;go_enter func39,ntmps39
   go_wp2;go_ret;rw[d.out];exact⟨_,_,_,rfl,G6 _,AI _ _,λB e=>by cases e⟩
theorem qt4 {w:WD}{p o:Nat}{S:NP}{C:Ct}(H:Yu w p o S C)(a:Int) :
  Calls prog 183 #[.pointer (some ⟨p,o,none⟩),.int .i64 a] w λe w'=>e=.returned (.int .i64 (C.Y0 a))/\Yu w' p o S (C.ref a)/\Turn S w w':=by
 obtain⟨x,d⟩:∃x,C.get a=x:=⟨_,rfl⟩;have K:=C.Zv H.ok a;rw[d] at K;by_cases h0:x=0
 ·have f:C.Y0 a=1:=by unfold Ct.Y0;rw[d,AA h0]
  have A:C.ref a=C:=by unfold Ct.ref;rw[f,AB (by decide)]
  rw[f,A];subst h0;go_enter func183,ntmps183
  go_wp2_with fail
  refine (q2j H a 0 d).mono ?_;rintro e F ⟨rfl,rfl⟩;go_wp2;go_ret;exact⟨rfl,H,Turn.refl _ _⟩
 ·by_cases h1:x=65535
  ·have f:C.Y0 a=7:=by unfold Ct.Y0;rw[d,AB h0,AA h1]
   have A:C.ref a=C:=by unfold Ct.ref;rw[f,AB (by decide)]
   rw[f,A];subst h1;go_enter func183,ntmps183
   go_wp2_with fail
   refine (q2j H a 65535 d).mono ?_;rintro e F ⟨rfl,rfl⟩;go_wp2;go_ret;exact⟨rfl,H,Turn.refl _ _⟩
  ·have f:C.Y0 a=0:=by unfold Ct.Y0;rw[d,AB h0,AB h1]
   have A:C.ref a=C.put a.toNat (x+1):=by unfold Ct.ref;rw[f,AA rfl,d]
   have E:=HI f;have D:=HI A;obtain⟨Q,X,B⟩:=Ct.En (C:=C) (a:=a) (by rw[d];exact h0);obtain⟨k,rfl⟩:=Int.eq_ofNat_of_zero_le Q;rw[AJ] at B;rw[d] at B;obtain⟨g,T,b,R,c0,c1,c2,c3,Y,Z,m,y,u⟩:=H.open_;obtain⟨M,O⟩:=m k (by omega);rw[<-B] at M;obtain⟨G,J,U,W⟩:=u k (x+1) (by omega) (by omega) (by omega);have I:=HI d;have j1:¬(C.n:Int)<=(k:Int):=by omega
   clear f A B m y u;go_enter func183,ntmps183
   go_wp2_with fail
   refine (q2j H k x I.out).mono ?_;rintro e F ⟨rfl,rfl⟩;go_wp2;go_ret;rw[E.out,D.out];exact⟨rfl,G,J⟩
theorem qlz {w:WD}{p o:Nat}{S:NP}{C:Ct}(H:Yu w p o S C)(a:Int) :
  Calls prog 184 #[.pointer (some ⟨p,o,none⟩),.int .i64 a] w λe w'=>e=.returned (.tuple #[.int .i64 (C.Jv a),.int .i64 (C.Jp a)])/\Yu w' p o S (C.Qp a)/\Turn S w w':=by
 obtain⟨x,y⟩:∃x,C.get a=x:=⟨_,rfl⟩;have G:=C.Zv H.ok a;rw[y] at G;by_cases h0:x=0
 ·have A:C.Jp a=1/\C.Jv a=0/\C.Qp a=C:=by unfold Ct.Jp Ct.Jv Ct.Qp;rw[y,AA h0,AA h0,AA h0];exact⟨rfl,rfl,rfl⟩
  rw[A.1,A.2.1,A.2.2];subst h0;go_enter func184,ntmps184
  go_wp2_with fail
  refine (q2j H a 0 y).mono ?_;rintro e M ⟨rfl,rfl⟩;go_wp2;go_ret2;exact⟨rfl,H,Turn.refl _ _⟩
 ·have A:C.Jp a=0/\C.Jv a=x-1/\C.Qp a=C.put a.toNat (x-1):=by unfold Ct.Jp Ct.Jv Ct.Qp;rw[y,AB h0,AB h0,AB h0];exact⟨rfl,rfl,rfl⟩
  have m:=HI A;obtain⟨K,U,B⟩:=Ct.En (C:=C) (a:=a) (by rw[y];exact h0);obtain⟨k,rfl⟩:=Int.eq_ofNat_of_zero_le K;rw[AJ] at B;rw[y] at B;obtain⟨g,Q,b,O,c0,c1,c2,c3,W,X,d,u,f⟩:=H.open_;obtain⟨I,J⟩:=d k (by omega);rw[<-B] at I;obtain⟨D,F,R,T⟩:=f k (x-1) (by omega) (by omega) (by omega);have E:=HI y;have j1:¬(C.n:Int)<=(k:Int):=by omega
  clear A B d u f;go_enter func184,ntmps184
  go_wp2_with fail
  refine (q2j H k x E.out).mono ?_;rintro e M ⟨rfl,rfl⟩;go_wp2;go_ret2;rw[m.out.1,m.out.2.1,m.out.2.2];exact⟨rfl,D,F⟩
theorem qm0 {w:WD}{p o:Nat}{S:NP}{C:Ct}(H:Yu w p o S C)(a:Int)(r:Bool)(E:C.fresh a=r) :
  Calls prog 180 #[.pointer (some ⟨p,o,none⟩),.int .i64 a] w λe w'=>e=.returned (.bool r)/\w=w':=by
 subst E;obtain⟨x,f⟩:∃x,C.get a=x:=⟨_,rfl⟩;by_cases h0:x=0
 ·have m:C.fresh a=false:=by unfold Ct.fresh;rw[f,AA h0]
  rw[m];subst h0;go_enter func180,ntmps180
  go_wp2_with fail
  refine (q2j H a 0 f).mono ?_;rintro e I ⟨rfl,rfl⟩;go_wp2;go_ret;exact⟨rfl,rfl⟩
 ·have m:=HI (show C.fresh a=decide (nm C.done a.toNat=0) by unfold Ct.fresh;rw[f,AB h0]);obtain⟨F,M,G⟩:=Ct.En (C:=C) (a:=a) (by rw[f];exact h0);obtain⟨k,rfl⟩:=Int.eq_ofNat_of_zero_le F;rw[AJ] at m;obtain⟨g,K,b,J,c0,c1,c2,c3,O,Q,u,d,A⟩:=H.open_;have hd:=d k (by omega);obtain⟨y,B⟩:∃y,nm C.done k=y:=⟨_,rfl⟩;rw[B] at hd m;have D:=HI f;have j1:¬(C.n:Int)<=(k:Int):=by omega
  clear G u d A B f;go_enter func180,ntmps180
  go_wp2_with fail
  refine (q2j H k x D.out).mono ?_;rintro e I ⟨rfl,rfl⟩;go_wp2;go_ret;exact⟨by rw[m.out];first|rfl|(refine congrArg (λx=>Ending.returned (Value.bool x)) ?_;rw[Bool.eq_iff_iff];simp[h0]),rfl⟩
theorem q7l {w:WD}{p o:Nat}{S:NP}{C:Ct}(H:Yu w p o S C) :
  Calls prog 85 #[.pointer (some ⟨p,o,none⟩)] w λe w'=>e=.returned (.tuple #[.int .i64 C.Ku,.int .i64 C.Kt])/\Yu w' p o S C.alloc/\Turn S w w':=by
 have T:=H.ok.1;obtain⟨g,X,b,W,c0,c1,c2,c3,k1,U,u,B,y⟩:=H.open_;have E:=HI y;have D:=HI u;clear y u B c1 c2 c3 U;go_enter func85,ntmps85
 go_wp2_with fail
 go_loop [4,10] (λ_ i=>∃k:Nat,k<=C.n/\i=.int .i64 (k:Int)/\∀j,j<k->C.may j=false) (λ_ i=>C.n-(intOf i).toNat)
 case atStart=>exact⟨0,AW _,rfl,λj J=>absurd J (Nat.not_lt_zero _)⟩
 case round=>
  obtain⟨k,hk,rfl,d⟩:=hrel;by_cases f:k<C.n
  ·obtain⟨hc,R⟩:=D.out k f;obtain⟨M,O,Y,Z⟩:=E.out k 1 f (by omega) (by omega);obtain⟨r,K⟩:∃r,C.may k=r:=⟨_,rfl⟩;have G:=HI K;have m:=HI d;have Q:(k:Int)<(C.n:Int):=by omega
   have e0:(0:Int)<=(k:Int):=by omega
   clear K d;go_wp2_with fail
   refine (qoh H k f r G.out).mono ?_;rintro e w1 ⟨rfl,rfl⟩
   cases r with
   |true=>
    have A:=HI (Ct.Jf (C:=C) (k:=k) (Ct.Oz f G.out m.out));go_wp2;go_ret2;rw[A.out.1,A.out.2.1,A.out.2.2];exact⟨rfl,M,O⟩
   |false=>
    go_wp2;refine⟨⟨k+1,by omega,by go_num,λj J=>?_⟩,by simp[intOf];omega⟩;by_cases I:j=k
    ·rw[I];exact G.out
    ·exact m.out j (by omega)
  ·have F:k=C.n:=by omega
   have Q:¬(k:Int)<(C.n:Int):=by omega
   have A:=HI (Ct.Y9 (Ct.Oy (C:=C) (by rw[<-F];exact d)));clear d F;go_wp2;go_ret2;rw[A.out.1,A.out.2.1,A.out.2.2];exact⟨rfl,H,Turn.refl _ _⟩
