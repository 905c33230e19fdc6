/- Counts as plain data; the reference's counts as they lie; its Get, Ref, Unref, Fresh, Firs -/
import Derived.Test.YtnjacafcocnicaaGreatDoorDv3
import Derived.Test.YtnjacafcocnicaaGreatDoorDv5
import Derived.Deep.RegionHeld3
namespace Go.Proofs.YtnjacafcocnicaaGreatDoor
open Go Go.RowKit Go.Proofs Tryz
set_option maxHeartbeats 4000000
set_option maxRecDepth 10000
def cv (x:Int):Value:=.int .i64 x
theorem qBx (l:LI):∀u∈l.map cv,u.oneCell'=true:=by
 intro u f;obtain⟨_,_,rfl⟩:=List.mem_map.1 f;rfl
def nm (l:LI)(k:Nat):Int:=l.getD k 0
theorem q6d (l:LI)(k:Nat)(x:Int)(h:k<l.length):nm (l.set k x) k=x:=by simp[nm,h]
theorem q4p (l:LI)(k j:Nat)(x:Int)(h:k≠j):nm (l.set k x) j=nm l j:=by simp[nm,h]
structure Ct where
 now:LI
 done:LI
 same:done.length=now.length
def Ct.n (C:Ct):Nat:=C.now.length
def Ct.first (C:Ct):Nat:=2+2*Qg C.n
def Ct.get (C:Ct)(a:Int):Int:=if 0<=a/\a<(C.n:Int) then nm C.now a.toNat else 0
def Ct.put (C:Ct)(k:Nat)(x:Int):Ct:=⟨C.now.set k x,C.done,by rw[List.length_set];exact C.same⟩
def Ct.Wn (C:Ct)(a:Int):Int:=if C.get a=0 then 1 else if C.get a=65535 then 7 else 0
def Ct.ref (C:Ct)(a:Int):Ct:=if C.Wn a=0 then C.put a.toNat (C.get a+1) else C
def Ct.Jw (C:Ct)(a:Int):Int:=if C.get a=0 then 1 else 0
def Ct.J6 (C:Ct)(a:Int):Int:=if C.get a=0 then 0 else C.get a-1
def Ct.Qw (C:Ct)(a:Int):Ct:=if C.get a=0 then C else C.put a.toNat (C.get a-1)
def Ct.fresh (C:Ct)(a:Int):Bool:=if C.get a=0 then false else decide (nm C.done a.toNat=0)
def Ct.Aw (C:Ct)(k:Nat):Bool:=decide (nm C.now k=0/\nm C.done k=0)
def Ct.commit (C:Ct):Ct:=⟨C.now,C.now,rfl⟩
def Ct.ok (C:Ct):Prop:=(32<=C.n/\C.n<=2048)/\∀k,k<C.n->0<=nm C.now k/\nm C.now k<=65535
theorem Ct.Ja {C:Ct}(h:C.ok)(a:Int):0<=C.get a/\C.get a<=65535:=by
 unfold Ct.get;split
 ·exact h.2 _ (by omega)
 ·omega
theorem Ct.Ig {C:Ct}{a:Int}(h:¬C.get a=0):0<=a/\a<(C.n:Int)/\C.get a=nm C.now a.toNat:=by
 unfold Ct.get at h ⊢;split at h
 ·rename_i h2;rw[AA h2];exact⟨h2.1,h2.2,rfl⟩
 ·exact absurd rfl h
theorem Ct.Zk (C:Ct)(k:Nat)(x:Int):(C.put k x).n=C.n:=List.length_set
theorem Ct.Dw {C:Ct}(h:C.ok)(k:Nat)(x:Int)(h1:0<=x)(h2:x<=65535):(C.put k x).ok:=by
 refine⟨by rw[C.Zk];exact h.1,λj f=>?_⟩;rw[C.Zk] at f;show 0<=nm (C.now.set k x) j/\nm (C.now.set k x) j<=65535;by_cases m:k=j
 ·subst m;rw[q6d _ _ _ f];exact⟨h1,h2⟩
 ·rw[q4p _ _ _ _ m];exact h.2 j f
theorem Ct.Fa {C:Ct}(h:C.ok):C.commit.ok:=h
def Xf (w:WD)(g n c:Nat)(l:LI):Prop:=w.ownsRow 0 3 1 (.slice (some ⟨g,0,none⟩) n c) n (l.map cv)
section
variable {w w':WD}{g n c:Nat}{l:LI}
theorem Xf.len (h:Xf w g n c l):l.length=n:=by have:=h.1;simpa using this
theorem Xf.cap (h:Xf w g n c l):n<=c/\c<=maxLen:=by
 rcases h.2 with⟨f,_⟩|⟨y,cap,p,f,_,_,h1,h2,_⟩
 ·injection f with m;cases m
 ·injection f with m q u;omega
theorem Xf.lt (h:Xf w g n c l):g<w.1.size:=by
 rcases h.2 with⟨m,_⟩|⟨u,cap,p,m,_,q,_⟩
 ·injection m with f;cases f
 ·injection m with f;injection f with f;injection f with f;subst f;exact (Array.getElem?_eq_some_iff.1 q).1
theorem Xf.keep (h:Xf w g n c l)(hk:w'.1[g]?=w.1[g]?):Xf w' g n c l:=q3d h λq f=>by
 have:q=g:=by
  have:(Value.slice (some ⟨g,0,none⟩) n c).ownBlock=some g:=rfl;rw[this] at f;exact (OI f).symm
 rw[this];exact hk
theorem Xf.at_ (h:Xf w g n c l){j:Nat}(hj:j<n):w.cell? ⟨g,j,none⟩=some (.int .i64 (nm l j))/\w.frozen? ⟨g,j,none⟩=false:=by
 have f:=h.len;refine⟨?_,World.ownsRow.frozenAt h j⟩;rw[World.ownsRow.cellAt h j (by omega),BA,AC (by omega)];unfold nm;rw[AG,AC (by omega)];rfl
theorem Xf.Vo (h:Xf w g n c l)(j:Nat)(x:Int):Xf (w.setCell ⟨g,j,none⟩ (.int .i64 x)) g n c (l.set j x):=by
 unfold Xf;rw[List.map_set];exact (World.ownsRow.stored h j (cv x)).1
end
def RC (w:WD)(p:Nat)(S:NP)(C:Ct):Prop:=∃(a f b m:Nat) (t:TypeId),w.1[p]?=some (.cells #[.slice (some ⟨a,0,none⟩) C.n f,.slice (some ⟨b,0,none⟩) C.n m] t (0,0))/\Xf w a C.n f C.now/\Xf w b C.n m C.done/\(a≠b/\p≠a/\p≠b)/\(S p/\S a/\S b)/\C.ok
theorem RC.ok {w:WD}{p:Nat}{S:NP}{C:Ct}(h:RC w p S C):C.ok:=by
 obtain⟨_,_,_,_,_,_,_,_,_,_,h⟩:=h;exact h
theorem RC.mono {w:WD}{p:Nat}{S S':NP}{C:Ct}(h:RC w p S C)(hs:∀k,S k->S' k):RC w p S' C:=by
 obtain⟨a,m,b,q,t,h1,h2,u,y,f,A⟩:=h;exact⟨a,m,b,q,t,h1,h2,u,y,⟨hs _ f.1,hs _ f.2.1,hs _ f.2.2⟩,A⟩
def Ct.may (C:Ct)(j:Nat):Bool:=decide (C.first<=j)&&C.Aw j
def Ct.pick (C:Ct):Option Nat:=(List.range C.n).find? C.may
def Ct.Gq (C:Ct):Int:=match C.pick with|some _=>0|none=>6
def Ct.Gs (C:Ct):Int:=match C.pick with|some k=>(k:Int)|none=>0
def Ct.alloc (C:Ct):Ct:=match C.pick with|some k=>C.put k 1|none=>C
def Ct.Vw (C:Ct)(k:Nat):Nat:=(List.range k).countP C.may
def Ct.free (C:Ct):Nat:=C.Vw C.n
theorem Ct.Sv {C:Ct}{k:Nat}(hk:k<C.n)(h:C.may k=true)(hall:∀j,j<k->C.may j=false):C.pick=some k:=by
 unfold Ct.pick;rw[List.find?_range_eq_some];exact⟨h,List.mem_range.2 hk,λj f=>by rw[hall j f];rfl⟩
theorem Ct.Sr {C:Ct}(hall:∀j,j<C.n->C.may j=false):C.pick=none:=by
 unfold Ct.pick;rw[List.find?_eq_none];intro j f;rw[hall j (List.mem_range.1 f)];simp
theorem Ct.Yd {C:Ct}{k:Nat}(h:C.pick=some k):C.Gq=0/\C.Gs=(k:Int)/\C.alloc=C.put k 1:=by
 unfold Ct.Gq Ct.Gs Ct.alloc;rw[h];exact⟨rfl,rfl,rfl⟩
theorem Ct.Vt {C:Ct}(h:C.pick=none):C.Gq=6/\C.Gs=0/\C.alloc=C:=by
 unfold Ct.Gq Ct.Gs Ct.alloc;rw[h];exact⟨rfl,rfl,rfl⟩
theorem Ct.Bh (C:Ct)(k:Nat):C.Vw (k+1)=C.Vw k+(if C.may k=true then 1 else 0):=by
 unfold Ct.Vw;rw[List.range_succ,List.countP_append,List.countP_singleton]
structure Qc5 (P:Program)(t e:TypeId):Prop where
 sl:P.underlying t=some (.slice e)
 info:(P.info? e).map (λi=>(i.zero,i.size,i.bytes))=some (some (.int .i64 0),1,8)
theorem TN:Qc5 prog 108 3:=⟨underlying108,by kernel_rfl⟩
section
variable {P:Program}{t e:TypeId}(w:WD)
end
theorem Xf.cells {w:WD}{g n c:Nat}{l:LI}(h:Xf w g n c l):∀(j:Nat) u,(l.map cv)[j]?=some u->w.cell? ((⟨g,0,none⟩:Addr).add j)=some u:=λj u f=>by
 have m:j<n:=by have:=(List.getElem?_eq_some_iff.1 f).1;rw[AF,h.len] at this;exact this
 rw[Addr.add_mid,AT,World.ownsRow.cellAt h j (by omega),f]
def Ct.zero (n:Nat):Ct:=⟨List.replicate n 0,List.replicate n 0,rfl⟩
theorem Ct.Zd (n:Nat):(Ct.zero n).n=n:=BK
theorem Ct.Cm {n:Nat}(h1:32<=n)(h2:n<=2048):(Ct.zero n).ok:=by
 refine⟨by rw[Ct.Zd];exact⟨h1,h2⟩,λk f=>?_⟩;rw[Ct.Zd] at f;show 0<=nm (List.replicate n 0) k/\nm (List.replicate n 0) k<=65535;unfold nm;simp[f]
section
variable {P:Program}{t e:TypeId}(w:WD)
theorem qve (n:Nat):(madeCells (Value.int .i64 0).cells (n*1)).toList=(List.replicate n (0:Int)).map cv:=by
 rw[show (Value.int .i64 0).cells=#[.int .i64 0] from rfl,Nat.mul_one,toList_madeCells_one];simp[cv]
end
def mkI (a b:Value):Sem Value:=Instr.makeSlice 108 a b
theorem qle (a b:Value):Instr.makeSlice 108 a b=mkI a b:=rfl
def Ut (n:Nat)(w:WD):WD:=w.alloc (.cells (madeCells #[.int .i64 0] (n*1)) 3)
theorem qqa (n:Nat)(hn:n<=1000000)(w:WD):(mkI (.int .i64 (n:Int)) (.int .i64 (n:Int))).run prog w=.ok (.slice (some ⟨w.1.size,0,none⟩) n n) (Ut n w):=by
 obtain⟨i,hi,m,f,p⟩:=info_parts TN.info;have h:=run_makeSlice (P:=prog) w 108 3 i _ TN.sl hi m .i64 .i64 n n (by omega) (by omega) (by rw[f,AJ];omega) (by rw[p];omega) (by omega);rw[f] at h;exact h
theorem qlf (n:Nat)(hn:n<=1000000)(w:WD):Xf (Ut n w) w.1.size n n (List.replicate n 0):=by
 have hm:(madeCells #[.int .i64 0] (n*1)).toList=(List.replicate n (0:Int)).map cv:=qve n;have f:=congrArg List.length hm;rw[Array.length_toList,AF,BK] at f;refine⟨by rw[AF,BK,Nat.mul_one],.inr ⟨w.1.size,n,_,rfl,AW _,BE w _,AE _,by unfold maxLen;omega,by rw[f,Nat.mul_one],?_⟩⟩;rw[hm,AN (by rw[AF,BK,Nat.mul_one];exact AE _)]
theorem qcv (n base:Nat)(w:WD)(h:base<=w.1.size):Below base w (Ut n w):=(AI _ _).alloc h _
theorem q3q (n:Nat)(w:WD):(Ut n w).1.size=w.1.size+1:=by simp[Ut]
section
attribute [local go_sem ↓] qle
end
def Ct.Zy (C:Ct)(m:Int):Nat->LU
 |0=>[]
 |k+1=>C.Zy m k++Qx (C.get (m+(k:Int))) 2
theorem Ct.Xg (C:Ct)(m:Int)(k:Nat):(C.Zy m k).length=2*k:=by
 induction k with
 |zero=>rfl
 |succ k ih=>show (C.Zy m k++Qx _ 2).length=_;rw[AD,ih,J8];omega
def Ct.body (C:Ct)(i:Int):LU:=if 0<=i/\i<(Qg C.n:Int) then C.Zy (i*118) 118 else []
section
def Le (l:LU)(k:Nat):Int:=Qq ((l.drop (2*k)).take 2)
def Y5 (n f i:Nat)(l:LU)(k:Nat):Bool:=decide (Le l k≠0/\(i*118+k<f\/n<=i*118+k))
def Yy (n i:Nat)(l:LU)(C:Ct):Nat->Ct
 |0=>C
 |k+1=>if i*118+k<n then (Yy n i l C k).put (i*118+k) (Le l k) else Yy n i l C k
def q4q (n f i:Nat)(l:LU):Prop:=l.length=236/\∀k,k<118->Y5 n f i l k=false
def Y8 (n:Nat)(f:List (LU)):Nat->Ct
 |0=>Ct.zero n
 |i+1=>Yy n i (nth f i) (Y8 n f i) 118
open Classical in
noncomputable def Xm (n:Int) (f:List (LU)):Int:=if ¬(32<=n/\n<=2048) then 1 else if f.length≠Qg n.toNat\/¬∀i,i<Qg n.toNat->q4q n.toNat (2+2*Qg n.toNat) i (nth f i) then 3 else 0
def Ui (n:Nat)(f:List (LU)):Ct:=(Y8 n f (Qg n)).commit
theorem qj8 (n i:Nat)(l:LU)(C:Ct)(k:Nat):(Yy n i l C k).n=C.n:=by
 induction k with
 |zero=>rfl
 |succ k ih=>unfold Yy;split;rw[Ct.Zk,ih];exact ih
theorem qaj (n:Nat)(f:List (LU))(i:Nat):(Y8 n f i).n=n:=by
 induction i with
 |zero=>exact Ct.Zd n
 |succ i ih=>exact (qj8 _ _ _ _ _).trans ih
end
theorem qj9 (C:Ct)(m:Int)(n k:Nat)(h:k<n):((C.Zy m n).drop (2*k)).take 2=Qx (C.get (m+(k:Int))) 2:=by
 induction n with
 |zero=>omega
 |succ n ih=>
  show ((C.Zy m n++Qx (C.get (m+(n:Int))) 2).drop (2*k)).take 2=_;by_cases f:k<n
  ·rw[List.drop_append_of_le_length (by rw[C.Xg];omega),List.take_append_of_le_length (by rw[AS,C.Xg];omega)];exact ih f
  ·obtain rfl:k=n:=by omega
   rw[List.drop_append,List.drop_eq_nil_of_le (by rw[C.Xg];omega),C.Xg,Nat.sub_self,BG,List.drop_zero,AN (by rw[J8];omega)]
theorem Ct.Qak {C:Ct}(h:C.ok){i k:Nat}(hi:i<Qg C.n)(hk:k<118):Le (C.body (i:Int)) k=C.get ((i:Int)*118+(k:Int)):=by
 have f:C.body (i:Int)=C.Zy ((i:Int)*118) 118:=by unfold Ct.body;rw[AA ⟨by omega,by omega⟩]
 unfold Le;rw[f,qj9 C _ 118 k hk];have h1:=C.Ja h ((i:Int)*118+(k:Int));exact q57 _ 2 h1.1 (by have:=h1.2;simp;omega)
theorem Ct.U0 {C:Ct}{i:Nat}(hi:i<Qg C.n):(C.body (i:Int)).length=236:=by
 unfold Ct.body;rw[AA ⟨by omega,by omega⟩,C.Xg]
theorem q6e (C:Ct)(k:Nat)(x:Int)(a:Nat)(f:a<C.n):nm (C.put k x).now a=if a=k then x else nm C.now a:=by
 show nm (C.now.set k x) a=_;by_cases h:a=k
 ·subst h;rw[AA rfl,q6d _ _ _ f]
 ·rw[AB h,q4p _ _ _ _ (λe=>h e.symm)]
theorem qgg (i:Nat)(l:LU)(C:Ct)(k a:Nat)(m:a<C.n):nm (Yy C.n i l C k).now a=if i*118<=a/\a<i*118+k then Le l (a-i*118) else nm C.now a:=by
 induction k with
 |zero=>rw[AB (by omega)];rfl
 |succ k ih=>
  unfold Yy;by_cases f:i*118+k<C.n
  ·rw[AA f,q6e _ _ _ _ (by rw[qj8];exact m),ih];by_cases e:a=i*118+k
   ·rw[AA e,AA (by omega),show a-i*118=k by omega]
   ·rw[AB e];by_cases h2:i*118<=a/\a<i*118+k
    ·rw[AA h2,AA (by omega)]
    ·rw[AB h2,AB (by omega)]
  ·rw[AB f,ih];by_cases h2:i*118<=a/\a<i*118+k
   ·rw[AA h2,AA (by omega)]
   ·rw[AB h2,AB (by omega)]
theorem qak (n:Nat)(f:List (LU))(i a:Nat)(m:a<n):nm (Y8 n f i).now a=if a<i*118 then Le (nth f (a / 118)) (a % 118) else 0:=by
 induction i with
 |zero=>
  rw[AB (by omega)];show nm (List.replicate n 0) a=0;unfold nm;simp[m]
 |succ i ih=>
  have h:=qgg i (nth f i) (Y8 n f i) 118 a (by rw[qaj];exact m);rw[qaj,ih] at h;refine (show nm (Y8 n f (i+1)).now a=_ from h).trans ?_;by_cases h1:i*118<=a/\a<i*118+118
  ·rw[AA h1,AA (by omega),show a / 118=i by omega,show a % 118=a-i*118 by omega]
  ·rw[AB h1];by_cases h2:a<i*118
   ·rw[AA h2,AA (by omega)]
   ·rw[AB h2,AB (by omega)]
def Ct.res (C:Ct):Prop:=∀a,a<C.n->a<C.first->nm C.now a=0
def Ct.bodies (C:Ct):List (LU):=(List.range (Qg C.n)).map λ(i:Nat)=>C.body (i:Int)
theorem Ct.E8 (C:Ct){i:Nat}(h:i<Qg C.n):nth C.bodies i=C.body (i:Int):=by
 unfold nth Ct.bodies;rw[AG,BA,List.getElem?_range h];rfl
theorem Ct.Rq {C:Ct}(h:C.ok)(hr:C.res){i:Nat}(hi:i<Qg C.n):q4q C.n (2+2*Qg C.n) i (nth C.bodies i):=by
 rw[C.E8 hi];refine⟨Ct.U0 hi,λk f=>?_⟩;unfold Y5;rw[Ct.Qak h hi f];refine AH ?_;rintro⟨h1,h2⟩;refine h1 ?_;unfold Ct.get;split
 ·rename_i m;have e:((i:Int)*118+(k:Int)).toNat=i*118+k:=by omega
  rw[e];rcases h2 with h2|h2
  ·exact hr _ (by omega) h2
  ·omega
 ·rfl
theorem Ct.Ov {C:Ct}(h:C.ok)(hr:C.res):Xm (C.n:Int) C.bodies=0/\Ui C.n C.bodies=C.commit:=by
 have B:C.bodies.length=Qg C.n:=by unfold Ct.bodies;rw[AF,List.length_range]
 constructor
 ·unfold Xm;rw[AJ,AB (λe=>e (by have:=h.1;omega)),AB];rintro (e|e)
  ·exact e B
  ·exact e λi hi=>Ct.Rq h hr hi
 ·have q:(Y8 C.n C.bodies (Qg C.n)).now=C.now:=by
   have h1:(Y8 C.n C.bodies (Qg C.n)).now.length=C.now.length:=qaj _ _ _;refine List.ext_getElem h1 λa u m=>?_
   have A:a<C.n:=m;have f:=qak C.n C.bodies (Qg C.n) a A;have p:a / 118<Qg C.n:=by unfold Qg;omega
   rw[AA (by unfold Qg;omega),C.E8 p,Ct.Qak h p (Nat.mod_lt _ (by omega))] at f;have y:((a / 118:Nat):Int)*118+((a % 118:Nat):Int)=(a:Int):=by omega
   rw[y] at f;unfold Ct.get at f;rw[AA ⟨by omega,by omega⟩,AJ] at f;unfold nm at f;simpa [u,m] using f
  unfold Ui Ct.commit;simp only[q]
theorem Ct.Dj {C D:Ct}(h:D.n=C.n):D.first=C.first:=by unfold Ct.first;rw[h]
theorem Ct.Ce {C:Ct}(h:C.res){k:Nat}(x:Int)(hk:C.first<=k):(C.put k x).res:=λa f m=>by
 rw[C.Zk] at f;rw[Ct.Dj (C.Zk k x)] at m;rw[q6e C k x a f,AB (by omega)];exact h a f m
theorem Ct.Vg {C:Ct}(h:C.res){a:Int}(hg:¬C.get a=0):0<=a/\a<(C.n:Int)/\C.first<=a.toNat:=by
 obtain⟨h1,h2,m⟩:=Ct.Ig hg;refine⟨h1,h2,?_⟩;rcases Nat.lt_or_ge a.toNat C.first with f|f
 ·exact absurd (m.trans (h a.toNat (by omega) f)) hg
 ·exact f
theorem Ct.Yw {C:Ct}{k:Nat}(h:C.pick=some k):k<C.n/\C.first<=k/\nm C.now k=0/\nm C.done k=0/\∀j,j<k->C.may j=false:=by
 unfold Ct.pick at h;rw[List.find?_range_eq_some] at h;obtain⟨h1,h2,f⟩:=h;unfold Ct.may Ct.Aw at h1;rw[BN,decide_eq_true_iff,decide_eq_true_iff] at h1;exact⟨List.mem_range.1 h2,h1.1,h1.2.1,h1.2.2,λj m=>by have:=f j m;simpa using this⟩
theorem Ct.Qat {C:Ct}(h:C.pick=none):∀j,j<C.n->C.may j=false:=λj f=>by
 unfold Ct.pick at h;rw[List.find?_eq_none] at h;have:=h j (List.mem_range.2 f);simpa using this
theorem Ct.Kv {C:Ct}(h:C.pick=none):C.free=0:=by
 unfold Ct.free Ct.Vw;rw[List.countP_eq_zero];intro j f;rw[Ct.Qat h j (List.mem_range.1 f)];simp
theorem Ct.Ic (C:Ct):C.alloc.n=C.n:=by unfold Ct.alloc;split;exact C.Zk _ _;rfl
theorem Ct.Qbk (C:Ct)(a:Int):(C.ref a).n=C.n:=by unfold Ct.ref;split;exact C.Zk _ _;rfl
theorem Ct.Ir (C:Ct)(a:Int):(C.Qw a).n=C.n:=by unfold Ct.Qw;split;rfl;exact C.Zk _ _
theorem Ct.Qah {C:Ct}(h:C.ok):C.alloc.ok:=by unfold Ct.alloc;split;exact Ct.Dw h _ _ (by omega) (by omega);exact h
theorem Ct.Ro {C:Ct}(h:C.res):C.alloc.res:=by
 unfold Ct.alloc;split
 ·rename_i k f;exact Ct.Ce h _ (Ct.Yw f).2.1
 ·exact h
theorem Ct.Qbb {C:Ct}(h:C.res)(a:Int):(C.ref a).res:=by
 unfold Ct.ref;split
 ·rename_i f;have m:¬C.get a=0:=λe=>by unfold Ct.Wn at f;rw[AA e] at f;omega
  exact Ct.Ce h _ (Ct.Vg h m).2.2
 ·exact h
theorem Ct.Tq {C:Ct}(h:C.res)(a:Int):(C.Qw a).res:=by
 unfold Ct.Qw;split
 ·exact h
 ·rename_i f;exact Ct.Ce h _ (Ct.Vg h f).2.2
theorem Ct.Qba {C:Ct}(h:C.ok)(a:Int):(C.ref a).ok:=by
 unfold Ct.ref;split
 ·rename_i f;have m:=C.Ja h a;refine Ct.Dw h _ _ (by omega) ?_;unfold Ct.Wn at f;split at f
  ·omega
  ·split at f<;>omega
 ·exact h
theorem Ct.Tm {C:Ct}(h:C.ok)(a:Int):(C.Qw a).ok:=by
 unfold Ct.Qw;split
 ·exact h
 ·have f:=C.Ja h a;exact Ct.Dw h _ _ (by omega) (by omega)
theorem Ct.Nq (n:Nat):(Ct.zero n).res:=λa f _=>by
 rw[Ct.Zd] at f;show nm (List.replicate n 0) a=0;unfold nm;simp[f]
theorem Ct.O7 (C:Ct)(j:Nat):C.may j=decide (C.first<=j/\nm C.now j=0/\nm C.done j=0):=by
 unfold Ct.may Ct.Aw;rw[Bool.eq_iff_iff];simp
def Y1 (w:WD)(p o:Nat)(S:NP)(C:Ct):Prop:=∃(a m b q:Nat) (t:TypeId) (f:Array Value),w.1[p]?=some (.cells f t (0,0))/\(f[o]?=some (.slice (some ⟨a,0,none⟩) C.n m)/\f[o+1]?=some (.slice (some ⟨b,0,none⟩) C.n q)/\f[o+2]?=some (.int .i64 (Qg C.n:Int))/\f[o+3]?=some (.int .i64 (C.first:Int)))/\Xf w a C.n m C.now/\Xf w b C.n q C.done/\(a≠b/\p≠a/\p≠b)/\(S a/\S b)/\C.ok
theorem q2r {w:WD}{p k:Nat}{f:Array Value}{t:TypeId}{v:Value}(h:w.1[p]?=some (.cells f t (0,0)))(m:f[k]?=some v):w.cell? ⟨p,k,none⟩=some v:=by rw[cell_of_row _ _ _ _ _ _ h];exact m
theorem Y1.ok {w:WD}{p o:Nat}{S:NP}{C:Ct}(h:Y1 w p o S C):C.ok:=by
 obtain⟨_,_,_,_,_,_,_,_,_,_,_,_,h⟩:=h;exact h
theorem Y1.lt {w:WD}{p o:Nat}{S:NP}{C:Ct}(h:Y1 w p o S C):p<w.1.size:=by
 obtain⟨_,_,_,_,_,_,h,_⟩:=h;exact (Array.getElem?_eq_some_iff.1 h).1
theorem Y1.keep {w w':WD}{p o:Nat}{S:NP}{C:Ct}(h:Y1 w p o S C)(hp:w'.1[p]?=w.1[p]?)(hk:∀k,k<w.1.size->S k->w'.1[k]?=w.1[k]?):Y1 w' p o S C:=by
 obtain⟨a,u,b,y,t,f,h1,D,h2,q,A,m,B⟩:=h;exact⟨a,u,b,y,t,f,hp.trans h1,D,h2.keep (hk a h2.lt m.1),q.keep (hk b q.lt m.2),A,m,B⟩
theorem Y1.mono {w:WD}{p o:Nat}{S S':NP}{C:Ct}(h:Y1 w p o S C)(hs:∀k,S k->S' k):Y1 w p o S' C:=by
 obtain⟨a,q,b,u,t,f,h1,D,h2,y,A,m,B⟩:=h;exact⟨a,q,b,u,t,f,h1,D,h2,y,A,⟨hs _ m.1,hs _ m.2⟩,B⟩
theorem Y1.below {w w':WD}{p o:Nat}{S:NP}{C:Ct}(h:Y1 w p o S C)(hb:Below w.1.size w w'):Y1 w' p o S C:=h.keep (hb.block p h.lt) λk f _=>hb.block k f
theorem Y1.shrink {w:WD}{p o:Nat}{S:NP}{C:Ct}(h:Y1 w p o S C):Y1 w p o (λk=>S k/\k<w.1.size) C:=by
 obtain⟨a,u,b,y,t,f,h1,D,h2,m,A,q,B⟩:=h;exact⟨a,u,b,y,t,f,h1,D,h2,m,A,⟨⟨q.1,h2.lt⟩,⟨q.2,m.lt⟩⟩,B⟩
theorem Y1.around {w w':WD}{p o p' o':Nat}{S:NP}{C:Ct}{cur cur':Array Value}{t t':TypeId}(h:Y1 w p o S C)(hp:w.1[p]?=some (.cells cur t (0,0)))(hp':w'.1[p']?=some (.cells cur' t' (0,0)))
  (hc:∀j,j<4->cur'[o'+j]?=cur[o+j]?) (hne:∀k,S k->p'≠k) (hk:∀k,k<w.1.size->S k->w'.1[k]?=w.1[k]?):Y1 w' p' o' S C:=by
 obtain⟨a,y,b,A,t,q,h1,m,h2,u,B,f,D⟩:=h;rw[hp] at h1;injection h1 with h1;injection h1 with h1 _ _;subst h1;exact⟨a,y,b,A,t',cur',hp',⟨(hc 0 (by omega)).trans m.1,(hc 1 (by omega)).trans m.2.1,(hc 2 (by omega)).trans m.2.2.1,(hc 3 (by omega)).trans m.2.2.2⟩,h2.keep (hk a h2.lt f.1),u.keep (hk b u.lt f.2),⟨B.1,hne a f.1,hne b f.2⟩,f,D⟩
theorem Y1.open_ {w:WD}{p o:Nat}{S:NP}{C:Ct}(H:Y1 w p o S C):∃g f b m:Nat,w.cell? ⟨p,o,none⟩=some (.slice (some ⟨g,0,none⟩) C.n f)/\w.cell? ⟨p,o+1,none⟩=some (.slice (some ⟨b,0,none⟩) C.n m)/\w.cell? ⟨p,o+2,none⟩=some (.int .i64 (Qg C.n:Int))/\w.cell? ⟨p,o+3,none⟩=some (.int .i64 (C.first:Int))/\
  (C.n<=f/\f<=9223372036854775807)/\(C.n<=m/\m<=9223372036854775807)/\(∀k,k<C.n->w.cell? ⟨g,k,none⟩=some (.int .i64 (nm C.now k))/\w.frozen? ⟨g,k,none⟩=false)/\(∀k,k<C.n->w.cell? ⟨b,k,none⟩=some (.int .i64 (nm C.done k)))/\
  (∀(k:Nat) (x:Int),k<C.n->0<=x->x<=65535->Y1 (w.setCell ⟨g,k,none⟩ (.int .i64 x)) p o S (C.put k x)/\Turn S w (w.setCell ⟨g,k,none⟩ (.int .i64 x))/\(w.setCell ⟨g,k,none⟩ (.int .i64 x)).cell? ⟨p,o,none⟩=some (.slice (some ⟨g,0,none⟩) C.n f)/\(w.setCell ⟨g,k,none⟩ (.int .i64 x)).cell? ⟨g,k,none⟩=some (.int .i64 x)):=by
 obtain⟨g,f,b,m,t,u,h1,⟨E,M,O,Q⟩,h2,y,A,F,R⟩:=H;have J:=h2.cap;have K:=y.cap;unfold maxLen at J K;refine⟨g,f,b,m,q2r h1 E,q2r h1 M,q2r h1 O,q2r h1 Q,⟨J.1,by omega⟩,⟨K.1,by omega⟩,λk q=>h2.at_ q,λk q=>(y.at_ q).1,λk x q B D=>?_⟩;have e:∀j,j≠g->(w.setCell ⟨g,k,none⟩ (.int .i64 x)).1[j]?=w.1[j]?:=λj U=>Below.heap_setCell _ _ _ _ (by show j≠g;exact U)
 have I:=(e p A.2.1).trans h1;have G:=h2.Vo k x;have T:(C.put k x).first=C.first:=by unfold Ct.first;rw[C.Zk]
 refine⟨⟨g,f,b,m,t,u,I,?_,?_,?_,A,F,C.Dw R k x B D⟩,Gw (a:=⟨g,k,none⟩) _ F.1,q2r I E,?_⟩
 ·rw[C.Zk,T];exact⟨E,M,O,Q⟩
 ·rw[C.Zk];exact G
 ·rw[C.Zk];exact y.keep (e b (Ne.symm A.1))
 ·have:=(G.at_ q).1;rw[q6d _ _ _ (by rw[h2.len];exact q)] at this;exact this
theorem q2t {w:WD}{p o:Nat}{S:NP}{C:Ct}(H:Y1 w p o S C)(a x:Int)(A:C.get a=x) :
  Calls prog 144 #[.pointer (some ⟨p,o,none⟩),.int .i64 a] w λe w'=>e=.returned (.int .i64 x)/\w=w':=by
 obtain⟨g,G,b,F,c0,c1,c2,c3,K,M,m,q,y⟩:=H.open_;have u:=HI m;clear m q y c1 c2 c3;by_cases h0:0<=a
 ·obtain⟨k,rfl⟩:=Int.eq_ofNat_of_zero_le h0;by_cases E:k<C.n
  ·have f:=HI (show x=nm C.now k by rw[<-A];unfold Ct.get;rw[AA (by omega)];rfl);obtain⟨J,_⟩:=u.out k E;have B:¬(k:Int)<0:=by omega
   have D:¬(C.n:Int)<=(k:Int):=by omega
   have I:(k:Int)<(C.n:Int):=by omega
   go_enter func144,ntmps144
   go_wp2;go_ret;exact⟨by rw[f.out];rfl,rfl⟩
  ·have f:=HI (show x=0 by rw[<-A];unfold Ct.get;rw[AB (by omega)]);have B:¬(k:Int)<0:=by omega
   have D:(C.n:Int)<=(k:Int):=by omega
   go_enter func144,ntmps144
   go_wp2;go_ret;exact⟨by rw[f.out];rfl,rfl⟩
 ·have f:=HI (show x=0 by rw[<-A];unfold Ct.get;rw[AB (by omega)]);have B:a<0:=by omega
  go_enter func144,ntmps144
  go_wp2;go_ret;exact⟨by rw[f.out];rfl,rfl⟩
def Ct.counted (C:Ct)(a:Nat):Bool:=decide (C.first<=a/\a<C.n)
theorem q2f {w:WD}{p o:Nat}{S:NP}{C:Ct}(H:Y1 w p o S C)(a:Nat)(r:Bool)(E:C.counted a=r) :
  Calls prog 201 #[.pointer (some ⟨p,o,none⟩),.int .i64 (a:Int)] w λe w'=>e=.returned (.bool r)/\w=w':=by
 obtain⟨g,I,b,G,c0,c1,c2,c3,J,K,y,m,A⟩:=H.open_;clear y m A c1 c2;obtain⟨f,B⟩:∃f,C.first=f:=⟨_,rfl⟩
 have q:=HI (show r=decide (f<=a/\a<C.n) by rw[<-E,<-B];rfl);rw[B] at c3;clear B E;by_cases h1:f<=a
 ·by_cases h2:a<C.n
  ·have u:=HI (show r=true by rw[q.out];exact AL ⟨h1,h2⟩);have D:(f:Int)<=(a:Int):=by omega
   have F:(a:Int)<(C.n:Int):=by omega
   go_enter func201,ntmps201
   go_wp2;go_ret;exact⟨by rw[u.out];rfl,rfl⟩
  ·have u:=HI (show r=false by rw[q.out];exact AH λh=>h2 h.2);have D:(f:Int)<=(a:Int):=by omega
   have F:¬(a:Int)<(C.n:Int):=by omega
   go_enter func201,ntmps201
   go_wp2;go_ret;exact⟨by rw[u.out];rfl,rfl⟩
 ·have u:=HI (show r=false by rw[q.out];exact AH λh=>h1 h.1);have D:¬(f:Int)<=(a:Int):=by omega
  go_enter func201,ntmps201
  go_wp2;go_ret;exact⟨by rw[u.out];rfl,rfl⟩
theorem qqb {w:WD}{p o:Nat}{S:NP}{C:Ct}(H:Y1 w p o S C)(k:Nat)(B:k<C.n)(r:Bool)(F:C.may k=r) :
  Calls prog 220 #[.pointer (some ⟨p,o,none⟩),.int .i64 (k:Int)] w λe w'=>e=.returned (.bool r)/\w=w':=by
 obtain⟨g,K,b,J,c0,c1,c2,c3,R,T,u,f,A⟩:=H.open_;obtain⟨I,_⟩:=u k B;have hd:=f k B;clear u f A c2 c3;obtain⟨x,D⟩:∃x,nm C.now k=x:=⟨_,rfl⟩;obtain⟨y,E⟩:∃y,nm C.done k=y:=⟨_,rfl⟩;have hm:=HI (show r=(decide (C.first<=k)&&decide (x=0/\y=0)) by rw[<-F,<-D,<-E];rfl);rw[D] at I;rw[E] at hd;clear D E F;have M:(k:Int)<(C.n:Int):=by omega
 have O:¬(C.n:Int)<=(k:Int):=by omega
 by_cases h1:C.first<=k
 ·have m:=HI (show C.counted k=true from AL ⟨h1,B⟩);have hm:=HI (show r=decide (x=0/\y=0) by rw[hm.out,AL h1,Bool.true_and]);clear h1;by_cases q:x=0
  ·have hm:=HI (show r=decide (y=0) by rw[hm.out];simp[q]);subst q;go_enter func220,ntmps220
   go_wp2_with fail
   refine (q2f H k true m.out).mono ?_;rintro e G ⟨rfl,rfl⟩;go_wp2;go_ret;exact⟨by rw[hm.out];first|rfl|(refine congrArg (λx=>Ending.returned (Value.bool x)) ?_;rw[Bool.eq_iff_iff];simp),rfl⟩
  ·have hm:=HI (show r=false by rw[hm.out];exact AH λh=>q h.1);have Q:(x==0)=false:=by simpa using q
   go_enter func220,ntmps220
   go_wp2_with fail
   refine (q2f H k true m.out).mono ?_;rintro e G ⟨rfl,rfl⟩;go_wp2;go_ret;exact⟨by rw[hm.out];rfl,rfl⟩
 ·have m:=HI (show C.counted k=false from AH λh=>h1 h.1);have hm:=HI (show r=false by rw[hm.out,AH h1,Bool.false_and]);clear h1;go_enter func220,ntmps220
  go_wp2_with fail
  refine (q2f H k false m.out).mono ?_;rintro e G ⟨rfl,rfl⟩;go_wp2;go_ret;exact⟨by rw[hm.out];rfl,rfl⟩
theorem Qbv (x:Int)(w:WD) :
  Calls prog 126 #[.slice none 0 0,.int .i64 x,.int .i64 2] w λe w'=>∃f m,e=.returned (.slice f 2 m)/\Sl w' f 2 m (Qx x 2)/\Below w.1.size w w':=by
 have p:=q7t none 0 0 [] x 2 w (Il w) (by omega);rw[show Uw [] x 2=Qx x 2 from rfl] at p;refine p.mono ?_;rintro e w' ⟨f,y,m,rfl,own,u⟩;have q:=own.len;rw[J8] at q;subst q;exact⟨f,m,rfl,own.sl,u⟩
theorem qgh {w:WD}{p o:Nat}{S:NP}{C:Ct}(H:Y1 w p o S C)(i:Int) :
  Calls prog 79 #[.pointer (some ⟨p,o,none⟩),.int .i64 i] w λe w'=>∃A n c,e=.returned (.slice A n c)/\Sl w' A n c (C.body i)/\Below w.1.size w w'/\∀D,A=some D->w.1.size<=D.block:=by
 obtain⟨many,hm⟩:∃m,Qg C.n=m:=⟨_,rfl⟩;have a6:=H.ok.1;have a2:many<=1000:=by rw[<-hm];unfold Qg;omega
 obtain⟨g,cg,b,cb,c0,c1,c2,c3,k1,k2,K,B,M⟩:=H.open_;clear K B M c1 c0 c3 k1 k2;rw[hm] at c2;have Y:=HI hm;clear hm;by_cases hi:0<=i/\i<(many:Int)
 ·have f:=HI (show C.body i=C.Zy (i*118) 118 by unfold Ct.body;rw[Y.out,AA hi]);obtain⟨q,rfl⟩:=Int.eq_ofNat_of_zero_le hi.1;have e1:¬(q:Int)<0:=by omega
  have e2:¬(many:Int)<=(q:Int):=by omega
  have hq:q<many:=by omega
  have d1:decide ((q:Int)<0)=false:=by simp
  have d2:decide ((many:Int)<=(q:Int))=false:=by simp;omega
  have d3:decide (many<=q)=false:=by simp;omega
  go_enter func79,ntmps79
  go_wp2_with (first
   |(at_make;refine qg4 _ Cb rfl _ _ rfl _ _ 236 rfl rfl (by omega) ?_)
   |fail)
  intro w1 Pg I;go_wp2_with fail
  go_loopw [5,6,18] (λb _ k wr=>∃(j:Nat) (Q:OA) (R:Nat),j<=118/\k=.int .i64 (j:Int)/\b=.slice Q (2*j) R/\Own wr w.1.size 5 Q (2*j) R (C.Zy ((q:Int)*118) j)/\Below w.1.size w wr) (λ_ _ k _=>118-(intOf k).toNat)
  case atStart=>exact⟨0,_,_,by omega,rfl,rfl,Pg,I⟩
  case round=>
   clear Pg I;obtain⟨j,Q,R,hj,rfl,rfl,own,T⟩:=hrel;by_cases a1:j<118
   ·have Hr:=H.below T;have e3:(j:Int)<118:=by omega
    obtain⟨x,W⟩:∃x,C.get ((q:Int)*118+(j:Int))=x:=⟨_,rfl⟩;have y:=HI (show C.Zy ((q:Int)*118) (j+1)=C.Zy ((q:Int)*118) j++Qx x 2 by rw[<-W];rfl);have Hx:=HI W;clear W c2;go_wp2_with fail
    refine (q2t Hr _ x Hx.out).mono ?_;rintro e w3 ⟨rfl,rfl⟩;go_wp2_with fail
    refine (Qbv x wr).mono ?_;rintro e w4 ⟨Z,c4,rfl,X,J⟩;have O:=own.below J;have G:=T.trans (J.mono T.size);go_wp2_with (at_builtin;refine q1r _ Cb rfl _ _ rfl w.1.size Q (2*j) R _ rfl O Z 2 c4 _ rfl X (by omega) G.size ?_)
    intro A5 c5 w5 u U;rw[<-y.out] at u;go_wp2;exact⟨⟨j+1,A5,c5,by omega,by go_num,rfl,u,G.trans U⟩,by simp[intOf];omega⟩
   ·have V:j=118:=by omega
    subst V;have F:=own.sl;have E:=λD e=>(own.block D e).1
    go_wp2;go_ret;rw[f.out];exact⟨_,_,_,rfl,F,T,E⟩
 ·have f:=HI (show C.body i=[] by unfold Ct.body;rw[Y.out,AB hi]);by_cases h0:i<0
  ·go_enter func79,ntmps79
   go_wp2;go_ret;rw[f.out];exact⟨_,_,_,rfl,Il _,AI _ _,λD e=>by cases e⟩
  ·have e2:(many:Int)<=i:=by omega
   have e1:¬i<0:=h0;go_enter func79,ntmps79
   go_wp2;go_ret;rw[f.out];exact⟨_,_,_,rfl,Il _,AI _ _,λD e=>by cases e⟩
theorem qvf {w:WD}{p o:Nat}{S:NP}{C:Ct}(H:Y1 w p o S C)(a:Int) :
  Calls prog 218 #[.pointer (some ⟨p,o,none⟩),.int .i64 a] w λe w'=>e=.returned (.int .i64 (C.Wn a))/\Y1 w' p o S (C.ref a)/\Turn S w w':=by
 obtain⟨x,f⟩:∃x,C.get a=x:=⟨_,rfl⟩;have K:=C.Ja H.ok a;rw[f] at K;by_cases h0:x=0
 ·have m:C.Wn a=1:=by unfold Ct.Wn;rw[f,AA h0]
  have A:C.ref a=C:=by unfold Ct.ref;rw[m,AB (by decide)]
  rw[m,A];subst h0;go_enter func218,ntmps218
  go_wp2_with fail
  refine (q2t H a 0 f).mono ?_;rintro e F ⟨rfl,rfl⟩;go_wp2;go_ret;exact⟨rfl,H,Turn.refl _ _⟩
 ·by_cases h1:x=65535
  ·have m:C.Wn a=7:=by unfold Ct.Wn;rw[f,AB h0,AA h1]
   have A:C.ref a=C:=by unfold Ct.ref;rw[m,AB (by decide)]
   rw[m,A];subst h1;go_enter func218,ntmps218
   go_wp2_with fail
   refine (q2t H a 65535 f).mono ?_;rintro e F ⟨rfl,rfl⟩;go_wp2;go_ret;exact⟨rfl,H,Turn.refl _ _⟩
  ·have m:C.Wn a=0:=by unfold Ct.Wn;rw[f,AB h0,AB h1]
   have A:C.ref a=C.put a.toNat (x+1):=by unfold Ct.ref;rw[m,AA rfl,f]
   have E:=HI m;have D:=HI A;obtain⟨Q,W,B⟩:=Ct.Ig (C:=C) (a:=a) (by rw[f];exact h0);obtain⟨k,rfl⟩:=Int.eq_ofNat_of_zero_le Q;rw[AJ] at B;rw[f] at B;obtain⟨g,T,b,R,c0,c1,c2,c3,X,Y,q,y,u⟩:=H.open_;obtain⟨M,O⟩:=q k (by omega);rw[<-B] at M;obtain⟨G,J,U,V⟩:=u k (x+1) (by omega) (by omega) (by omega);have I:=HI f;have j1:¬(C.n:Int)<=(k:Int):=by omega
   clear m A B q y u;go_enter func218,ntmps218
   go_wp2_with fail
   refine (q2t H k x I.out).mono ?_;rintro e F ⟨rfl,rfl⟩;go_wp2;go_ret;rw[E.out,D.out];exact⟨rfl,G,J⟩
theorem qnw {w:WD}{p o:Nat}{S:NP}{C:Ct}(H:Y1 w p o S C)(a:Int) :
  Calls prog 219 #[.pointer (some ⟨p,o,none⟩),.int .i64 a] w λe w'=>e=.returned (.tuple #[.int .i64 (C.J6 a),.int .i64 (C.Jw a)])/\Y1 w' p o S (C.Qw a)/\Turn S w w':=by
 obtain⟨x,y⟩:∃x,C.get a=x:=⟨_,rfl⟩;have G:=C.Ja H.ok a;rw[y] at G;by_cases h0:x=0
 ·have A:C.Jw a=1/\C.J6 a=0/\C.Qw a=C:=by unfold Ct.Jw Ct.J6 Ct.Qw;rw[y,AA h0,AA h0,AA h0];exact⟨rfl,rfl,rfl⟩
  rw[A.1,A.2.1,A.2.2];subst h0;go_enter func219,ntmps219
  go_wp2_with fail
  refine (q2t H a 0 y).mono ?_;rintro e M ⟨rfl,rfl⟩;go_wp2;go_ret2;exact⟨rfl,H,Turn.refl _ _⟩
 ·have A:C.Jw a=0/\C.J6 a=x-1/\C.Qw a=C.put a.toNat (x-1):=by unfold Ct.Jw Ct.J6 Ct.Qw;rw[y,AB h0,AB h0,AB h0];exact⟨rfl,rfl,rfl⟩
  have q:=HI A;obtain⟨K,U,B⟩:=Ct.Ig (C:=C) (a:=a) (by rw[y];exact h0);obtain⟨k,rfl⟩:=Int.eq_ofNat_of_zero_le K;rw[AJ] at B;rw[y] at B;obtain⟨g,Q,b,O,c0,c1,c2,c3,V,W,f,u,m⟩:=H.open_;obtain⟨I,J⟩:=f k (by omega);rw[<-B] at I;obtain⟨D,F,R,T⟩:=m k (x-1) (by omega) (by omega) (by omega);have E:=HI y;have j1:¬(C.n:Int)<=(k:Int):=by omega
  clear A B f u m;go_enter func219,ntmps219
  go_wp2_with fail
  refine (q2t H k x E.out).mono ?_;rintro e M ⟨rfl,rfl⟩;go_wp2;go_ret2;rw[q.out.1,q.out.2.1,q.out.2.2];exact⟨rfl,D,F⟩
theorem qnx {w:WD}{p o:Nat}{S:NP}{C:Ct}(H:Y1 w p o S C)(a:Int)(r:Bool)(E:C.fresh a=r) :
  Calls prog 196 #[.pointer (some ⟨p,o,none⟩),.int .i64 a] w λe w'=>e=.returned (.bool r)/\w=w':=by
 subst E;obtain⟨x,m⟩:∃x,C.get a=x:=⟨_,rfl⟩;by_cases h0:x=0
 ·have q:C.fresh a=false:=by unfold Ct.fresh;rw[m,AA h0]
  rw[q];subst h0;go_enter func196,ntmps196
  go_wp2_with fail
  refine (q2t H a 0 m).mono ?_;rintro e I ⟨rfl,rfl⟩;go_wp2;go_ret;exact⟨rfl,rfl⟩
 ·have q:=HI (show C.fresh a=decide (nm C.done a.toNat=0) by unfold Ct.fresh;rw[m,AB h0]);obtain⟨F,M,G⟩:=Ct.Ig (C:=C) (a:=a) (by rw[m];exact h0);obtain⟨k,rfl⟩:=Int.eq_ofNat_of_zero_le F;rw[AJ] at q;obtain⟨g,K,b,J,c0,c1,c2,c3,O,Q,u,f,A⟩:=H.open_;have hd:=f k (by omega);obtain⟨y,B⟩:∃y,nm C.done k=y:=⟨_,rfl⟩;rw[B] at hd q;have D:=HI m;have j1:¬(C.n:Int)<=(k:Int):=by omega
  clear G u f A B m;go_enter func196,ntmps196
  go_wp2_with fail
  refine (q2t H k x D.out).mono ?_;rintro e I ⟨rfl,rfl⟩;go_wp2;go_ret;exact⟨by rw[q.out];first|rfl|(refine congrArg (λx=>Ending.returned (Value.bool x)) ?_;rw[Bool.eq_iff_iff];simp[h0]),rfl⟩
theorem qcw {w:WD}{p o:Nat}{S:NP}{C:Ct}(H:Y1 w p o S C) :
  Calls prog 194 #[.pointer (some ⟨p,o,none⟩)] w λe w'=>e=.returned (.tuple #[.int .i64 C.Gs,.int .i64 C.Gq])/\Y1 w' p o S C.alloc/\Turn S w w':=by
 have T:=H.ok.1;obtain⟨g,W,b,V,c0,c1,c2,c3,k1,U,u,B,y⟩:=H.open_;have E:=HI y;have D:=HI u;clear y u B c1 c2 c3 U;go_enter func194,ntmps194
 go_wp2_with fail
 go_loop [4,10] (λ_ i=>∃k:Nat,k<=C.n/\i=.int .i64 (k:Int)/\∀j,j<k->C.may j=false) (λ_ i=>C.n-(intOf i).toNat)
 case atStart=>exact⟨0,AW _,rfl,λj J=>absurd J (Nat.not_lt_zero _)⟩
 case round=>
  obtain⟨k,hk,rfl,f⟩:=hrel;by_cases m:k<C.n
  ·obtain⟨hc,R⟩:=D.out k m;obtain⟨M,O,X,Y⟩:=E.out k 1 m (by omega) (by omega);obtain⟨r,K⟩:∃r,C.may k=r:=⟨_,rfl⟩;have G:=HI K;have q:=HI f;have Q:(k:Int)<(C.n:Int):=by omega
   have Z:(0:Int)<=(k:Int):=by omega
   clear K f;go_wp2_with fail
   refine (qqb H k m r G.out).mono ?_;rintro e w1 ⟨rfl,rfl⟩
   cases r with
   |true=>
    have A:=HI (Ct.Yd (C:=C) (k:=k) (Ct.Sv m G.out q.out));go_wp2;go_ret2;rw[A.out.1,A.out.2.1,A.out.2.2];exact⟨rfl,M,O⟩
   |false=>
    go_wp2;refine⟨⟨k+1,by omega,by go_num,λj J=>?_⟩,by simp[intOf];omega⟩;by_cases I:j=k
    ·rw[I];exact G.out
    ·exact q.out j (by omega)
  ·have F:k=C.n:=by omega
   have Q:¬(k:Int)<(C.n:Int):=by omega
   have A:=HI (Ct.Vt (Ct.Sr (C:=C) (by rw[<-F];exact f)));clear f F;go_wp2;go_ret2;rw[A.out.1,A.out.2.1,A.out.2.2];exact⟨rfl,H,Turn.refl _ _⟩
