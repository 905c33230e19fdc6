/- Counts as plain data; the reference's counts as they lie; its Get, Ref, Unref, Fresh, Firs -/
import Derived.Test.YtnnbaihfboacoaaGreatDoorEu3
import Derived.Test.YtnnbaihfboacoaaGreatDoorEu4
import Derived.Deep.RegionHeld3
namespace Go.Proofs.YtnnbaihfboacoaaGreatDoor
open Go Go.RowKit Go.Proofs
set_option maxHeartbeats 4000000
set_option maxRecDepth 10000
def cv (x:Int):Value:=.int .i64 x
theorem qy6 (l:List Int):∀u∈l.map cv,u.oneCell'=true:=by
 intro u b;obtain⟨_,_,rfl⟩:=List.mem_map.1 b;rfl
def nm (l:List Int)(k:Nat):Int:=l.getD k 0
theorem q4e (l:List Int)(k:Nat)(x:Int)(h:k<l.length):nm (l.set k x) k=x:=by simp[nm,h]
theorem q56 (l:List Int)(k j:Nat)(x:Int)(h:k≠j):nm (l.set k x) j=nm l j:=by simp[nm,h]
structure Ct where
 now:List Int
 done:List Int
 same:done.length=now.length
def Ct.n (C:Ct):Nat:=C.now.length
def Ct.first (C:Ct):Nat:=2+2*Qe C.n
def Ct.get (C:Ct)(a:Int):Int:=if 0<=a/\a<(C.n:Int) then nm C.now a.toNat else 0
def Ct.put (C:Ct)(k:Nat)(x:Int):Ct:=⟨C.now.set k x,C.done,by rw[List.length_set];exact C.same⟩
def Ct.Y8 (C:Ct)(a:Int):Int:=if C.get a=0 then 1 else if C.get a=65535 then 7 else 0
def Ct.ref (C:Ct)(a:Int):Ct:=if C.Y8 a=0 then C.put a.toNat (C.get a+1) else C
def Ct.Jz (C:Ct)(a:Int):Int:=if C.get a=0 then 1 else 0
def Ct.Ju (C:Ct)(a:Int):Int:=if C.get a=0 then 0 else C.get a-1
def Ct.Qy (C:Ct)(a:Int):Ct:=if C.get a=0 then C else C.put a.toNat (C.get a-1)
def Ct.fresh (C:Ct)(a:Int):Bool:=if C.get a=0 then false else decide (nm C.done a.toNat=0)
def Ct.U3 (C:Ct)(k:Nat):Bool:=decide (nm C.now k=0/\nm C.done k=0)
def Ct.commit (C:Ct):Ct:=⟨C.now,C.now,rfl⟩
def Ct.ok (C:Ct):Prop:=(32<=C.n/\C.n<=2048)/\∀k,k<C.n->0<=nm C.now k/\nm C.now k<=65535
theorem Ct.Jc {C:Ct}(h:C.ok)(a:Int):0<=C.get a/\C.get a<=65535:=by
 unfold Ct.get;split
 ·exact h.2 _ (by omega)
 ·omega
theorem Ct.Et {C:Ct}{a:Int}(h:¬C.get a=0):0<=a/\a<(C.n:Int)/\C.get a=nm C.now a.toNat:=by
 unfold Ct.get at h ⊢;split at h
 ·rename_i h2;rw[if_pos h2];exact⟨h2.1,h2.2,rfl⟩
 ·exact absurd rfl h
theorem Ct.Zi (C:Ct)(k:Nat)(x:Int):(C.put k x).n=C.n:=List.length_set
theorem Ct.G9 {C:Ct}(h:C.ok)(k:Nat)(x:Int)(h1:0<=x)(h2:x<=65535):(C.put k x).ok:=by
 refine⟨by rw[C.Zi];exact h.1,λj b=>?_⟩;rw[C.Zi] at b;show 0<=nm (C.now.set k x) j/\nm (C.now.set k x) j<=65535;by_cases d:k=j
 ·subst d;rw[q4e _ _ _ b];exact⟨h1,h2⟩
 ·rw[q56 _ _ _ _ d];exact h.2 j b
theorem Ct.D5 {C:Ct}(h:C.ok):C.commit.ok:=h
def J6 (w:World)(g n c:Nat)(l:List Int):Prop:=w.ownsRow 0 3 1 (.slice (some ⟨g,0,none⟩) n c) n (l.map cv)
section
variable {w w':World}{g n c:Nat}{l:List Int}
theorem J6.len (h:J6 w g n c l):l.length=n:=by have:=h.1;simpa using this
theorem J6.cap (h:J6 w g n c l):n<=c/\c<=maxLen:=by
 rcases h.2 with⟨b,_⟩|⟨u,cap,f,b,_,_,h1,h2,_⟩
 ·injection b with d;cases d
 ·injection b with d m p;omega
theorem J6.lt (h:J6 w g n c l):g<w.1.size:=by
 rcases h.2 with⟨d,_⟩|⟨p,cap,f,d,_,m,_⟩
 ·injection d with b;cases b
 ·injection d with b;injection b with b;injection b with b;subst b;exact (Array.getElem?_eq_some_iff.1 m).1
theorem J6.keep (h:J6 w g n c l)(hk:w'.1[g]?=w.1[g]?):J6 w' g n c l:=q30 h λq b=>by
 have:q=g:=by
  have:(Value.slice (some ⟨g,0,none⟩) n c).ownBlock=some g:=rfl;rw[this] at b;exact (Option.some.inj b).symm
 rw[this];exact hk
theorem J6.at_ (h:J6 w g n c l){j:Nat}(hj:j<n):w.cell? ⟨g,j,none⟩=some (.int .i64 (nm l j))/\w.frozen? ⟨g,j,none⟩=false:=by
 have b:=h.len;refine⟨?_,World.ownsRow.frozenAt h j⟩;rw[World.ownsRow.cellAt h j (by omega),List.getElem?_map,List.getElem?_eq_getElem (by omega)];unfold nm;rw[List.getD_eq_getElem?_getD,List.getElem?_eq_getElem (by omega)];rfl
theorem J6.Vr (h:J6 w g n c l)(j:Nat)(x:Int):J6 (w.setCell ⟨g,j,none⟩ (.int .i64 x)) g n c (l.set j x):=by
 unfold J6;rw[List.map_set];exact (World.ownsRow.stored h j (cv x)).1
end
def RC (w:World)(p:Nat)(S:Nat->Prop)(C:Ct):Prop:=∃(a d b f:Nat) (t:TypeId),w.1[p]?=some (.cells #[.slice (some ⟨a,0,none⟩) C.n d,.slice (some ⟨b,0,none⟩) C.n f] t (0,0))/\J6 w a C.n d C.now/\J6 w b C.n f C.done/\(a≠b/\p≠a/\p≠b)/\(S p/\S a/\S b)/\C.ok
theorem RC.ok {w:World}{p:Nat}{S:Nat->Prop}{C:Ct}(h:RC w p S C):C.ok:=by
 obtain⟨_,_,_,_,_,_,_,_,_,_,h⟩:=h;exact h
theorem RC.mono {w:World}{p:Nat}{S S':Nat->Prop}{C:Ct}(h:RC w p S C)(hs:∀k,S k->S' k):RC w p S' C:=by
 obtain⟨a,f,b,m,t,h1,h2,u,y,d,A⟩:=h;exact⟨a,f,b,m,t,h1,h2,u,y,⟨hs _ d.1,hs _ d.2.1,hs _ d.2.2⟩,A⟩
def Ct.may (C:Ct)(j:Nat):Bool:=decide (C.first<=j)&&C.U3 j
def Ct.pick (C:Ct):Option Nat:=(List.range C.n).find? C.may
def Ct.Uf (C:Ct):Int:=match C.pick with|some _=>0|none=>6
def Ct.Uy (C:Ct):Int:=match C.pick with|some k=>(k:Int)|none=>0
def Ct.alloc (C:Ct):Ct:=match C.pick with|some k=>C.put k 1|none=>C
def Ct.Jw (C:Ct)(k:Nat):Nat:=(List.range k).countP C.may
def Ct.free (C:Ct):Nat:=C.Jw C.n
theorem Ct.O0 {C:Ct}{k:Nat}(hk:k<C.n)(h:C.may k=true)(hall:∀j,j<k->C.may j=false):C.pick=some k:=by
 unfold Ct.pick;rw[List.find?_range_eq_some];exact⟨h,List.mem_range.2 hk,λj b=>by rw[hall j b];rfl⟩
theorem Ct.Oz {C:Ct}(hall:∀j,j<C.n->C.may j=false):C.pick=none:=by
 unfold Ct.pick;rw[List.find?_eq_none];intro j b;rw[hall j (List.mem_range.1 b)];simp
theorem Ct.Xv {C:Ct}{k:Nat}(h:C.pick=some k):C.Uf=0/\C.Uy=(k:Int)/\C.alloc=C.put k 1:=by
 unfold Ct.Uf Ct.Uy Ct.alloc;rw[h];exact⟨rfl,rfl,rfl⟩
theorem Ct.Vm {C:Ct}(h:C.pick=none):C.Uf=6/\C.Uy=0/\C.alloc=C:=by
 unfold Ct.Uf Ct.Uy Ct.alloc;rw[h];exact⟨rfl,rfl,rfl⟩
theorem Ct.Ku (C:Ct)(k:Nat):C.Jw (k+1)=C.Jw k+(if C.may k=true then 1 else 0):=by
 unfold Ct.Jw;rw[List.range_succ,List.countP_append,List.countP_singleton]
structure Qcm (P:Program)(t e:TypeId):Prop where
 sl:P.underlying t=some (.slice e)
 info:(P.info? e).map (λi=>(i.zero,i.size,i.bytes))=some (some (.int .i64 0),1,8)
theorem TN:Qcm Tryz.prog 36 3:=⟨Tryz.underlying36,by kernel_rfl⟩
section
variable {P:Program}{t e:TypeId}(w:World)
end
theorem J6.cells {w:World}{g n c:Nat}{l:List Int}(h:J6 w g n c l):∀(j:Nat) u,(l.map cv)[j]?=some u->w.cell? ((⟨g,0,none⟩:Addr).add j)=some u:=λj u b=>by
 have d:j<n:=by have:=(List.getElem?_eq_some_iff.1 b).1;rw[List.length_map,h.len] at this;exact this
 rw[Addr.add_mid,Nat.zero_add,World.ownsRow.cellAt h j (by omega),b]
def Ct.zero (n:Nat):Ct:=⟨List.replicate n 0,List.replicate n 0,rfl⟩
theorem Ct.Q9 (n:Nat):(Ct.zero n).n=n:=List.length_replicate
theorem Ct.Ba {n:Nat}(h1:32<=n)(h2:n<=2048):(Ct.zero n).ok:=by
 refine⟨by rw[Ct.Q9];exact⟨h1,h2⟩,λk b=>?_⟩;rw[Ct.Q9] at b;show 0<=nm (List.replicate n 0) k/\nm (List.replicate n 0) k<=65535;unfold nm;simp[b]
section
variable {P:Program}{t e:TypeId}(w:World)
theorem quh (n:Nat):(madeCells (Value.int .i64 0).cells (n*1)).toList=(List.replicate n (0:Int)).map cv:=by
 rw[show (Value.int .i64 0).cells=#[.int .i64 0] from rfl,Nat.mul_one,toList_madeCells_one];simp[cv]
end
def mkI (a b:Value):Sem Value:=Instr.makeSlice 36 a b
theorem qky (a b:Value):Instr.makeSlice 36 a b=mkI a b:=rfl
def Ua (n:Nat)(w:World):World:=w.alloc (.cells (madeCells #[.int .i64 0] (n*1)) 3)
theorem qrc (n:Nat)(hn:n<=1000000)(w:World):(mkI (.int .i64 (n:Int)) (.int .i64 (n:Int))).run Tryz.prog w=.ok (.slice (some ⟨w.1.size,0,none⟩) n n) (Ua n w):=by
 obtain⟨i,m,d,b,f⟩:=info_parts TN.info;have h:=run_makeSlice (P:=Tryz.prog) w 36 3 i _ TN.sl m d .i64 .i64 n n (by omega) (by omega) (by rw[b,Int.toNat_natCast];omega) (by rw[f];omega) (by omega);rw[b] at h;exact h
theorem qkz (n:Nat)(hn:n<=1000000)(w:World):J6 (Ua n w) w.1.size n n (List.replicate n 0):=by
 have hm:(madeCells #[.int .i64 0] (n*1)).toList=(List.replicate n (0:Int)).map cv:=quh n;have b:=congrArg List.length hm;rw[Array.length_toList,List.length_map,List.length_replicate] at b;refine⟨by rw[List.length_map,List.length_replicate,Nat.mul_one],.inr ⟨w.1.size,n,_,rfl,Nat.zero_le _,heap_alloc_new w _,Nat.le_refl _,by unfold maxLen;omega,by rw[b,Nat.mul_one],?_⟩⟩;rw[hm,List.take_of_length_le (by rw[List.length_map,List.length_replicate,Nat.mul_one];exact Nat.le_refl _)]
theorem qd8 (n base:Nat)(w:World)(h:base<=w.1.size):Below base w (Ua n w):=(Below.refl _ _).alloc h _
theorem q3w (n:Nat)(w:World):(Ua n w).1.size=w.1.size+1:=by simp[Ua]
section
attribute [local go_sem ↓] qky
end
def Ct.Zz (C:Ct)(m:Int):Nat->List UInt8
 |0=>[]
 |k+1=>C.Zz m k++Zc (C.get (m+(k:Int))) 2
theorem Ct.Xa (C:Ct)(m:Int)(k:Nat):(C.Zz m k).length=2*k:=by
 induction k with
 |zero=>rfl
 |succ k ih=>show (C.Zz m k++Zc _ 2).length=_;rw[List.length_append,ih,Yl];omega
def Ct.body (C:Ct)(i:Int):List UInt8:=if 0<=i/\i<(Qe C.n:Int) then C.Zz (i*118) 118 else []
section
def F7 (l:List UInt8)(k:Nat):Int:=Q8 ((l.drop (2*k)).take 2)
def Yy (n f i:Nat)(l:List UInt8)(k:Nat):Bool:=decide (F7 l k≠0/\(i*118+k<f\/n<=i*118+k))
def Yo (n i:Nat)(l:List UInt8)(C:Ct):Nat->Ct
 |0=>C
 |k+1=>if i*118+k<n then (Yo n i l C k).put (i*118+k) (F7 l k) else Yo n i l C k
def q57 (n f i:Nat)(l:List UInt8):Prop:=l.length=236/\∀k,k<118->Yy n f i l k=false
def Y2 (n:Nat)(b:List (List UInt8)):Nat->Ct
 |0=>Ct.zero n
 |i+1=>Yo n i (nth b i) (Y2 n b i) 118
open Classical in
noncomputable def Xf (n:Int) (b:List (List UInt8)):Int:=if ¬(32<=n/\n<=2048) then 1 else if b.length≠Qe n.toNat\/¬∀i,i<Qe n.toNat->q57 n.toNat (2+2*Qe n.toNat) i (nth b i) then 3 else 0
def Vu (n:Nat)(b:List (List UInt8)):Ct:=(Y2 n b (Qe n)).commit
theorem qil (n i:Nat)(l:List UInt8)(C:Ct)(k:Nat):(Yo n i l C k).n=C.n:=by
 induction k with
 |zero=>rfl
 |succ k ih=>unfold Yo;split;rw[Ct.Zi,ih];exact ih
theorem qb8 (n:Nat)(b:List (List UInt8))(i:Nat):(Y2 n b i).n=n:=by
 induction i with
 |zero=>exact Ct.Q9 n
 |succ i ih=>exact (qil _ _ _ _ _).trans ih
end
theorem qim (C:Ct)(m:Int)(n k:Nat)(h:k<n):((C.Zz m n).drop (2*k)).take 2=Zc (C.get (m+(k:Int))) 2:=by
 induction n with
 |zero=>omega
 |succ n ih=>
  show ((C.Zz m n++Zc (C.get (m+(n:Int))) 2).drop (2*k)).take 2=_;by_cases b:k<n
  ·rw[List.drop_append_of_le_length (by rw[C.Xa];omega),List.take_append_of_le_length (by rw[List.length_drop,C.Xa];omega)];exact ih b
  ·obtain rfl:k=n:=by omega
   rw[List.drop_append,List.drop_eq_nil_of_le (by rw[C.Xa];omega),C.Xa,Nat.sub_self,List.nil_append,List.drop_zero,List.take_of_length_le (by rw[Yl];omega)]
theorem Ct.Sz {C:Ct}(h:C.ok){i k:Nat}(hi:i<Qe C.n)(hk:k<118):F7 (C.body (i:Int)) k=C.get ((i:Int)*118+(k:Int)):=by
 have b:C.body (i:Int)=C.Zz ((i:Int)*118) 118:=by unfold Ct.body;rw[if_pos ⟨by omega,by omega⟩]
 unfold F7;rw[b,qim C _ 118 k hk];have h1:=C.Jc h ((i:Int)*118+(k:Int));exact q8y _ 2 h1.1 (by have:=h1.2;simp;omega)
theorem Ct.Ug {C:Ct}{i:Nat}(hi:i<Qe C.n):(C.body (i:Int)).length=236:=by
 unfold Ct.body;rw[if_pos ⟨by omega,by omega⟩,C.Xa]
theorem q6d (C:Ct)(k:Nat)(x:Int)(a:Nat)(b:a<C.n):nm (C.put k x).now a=if a=k then x else nm C.now a:=by
 show nm (C.now.set k x) a=_;by_cases h:a=k
 ·subst h;rw[if_pos rfl,q4e _ _ _ b]
 ·rw[if_neg h,q56 _ _ _ _ (λe=>h e.symm)]
theorem qh3 (i:Nat)(l:List UInt8)(C:Ct)(k a:Nat)(d:a<C.n):nm (Yo C.n i l C k).now a=if i*118<=a/\a<i*118+k then F7 l (a-i*118) else nm C.now a:=by
 induction k with
 |zero=>rw[if_neg (by omega)];rfl
 |succ k ih=>
  unfold Yo;by_cases b:i*118+k<C.n
  ·rw[if_pos b,q6d _ _ _ _ (by rw[qil];exact d),ih];by_cases e:a=i*118+k
   ·rw[if_pos e,if_pos (by omega),show a-i*118=k by omega]
   ·rw[if_neg e];by_cases h2:i*118<=a/\a<i*118+k
    ·rw[if_pos h2,if_pos (by omega)]
    ·rw[if_neg h2,if_neg (by omega)]
  ·rw[if_neg b,ih];by_cases h2:i*118<=a/\a<i*118+k
   ·rw[if_pos h2,if_pos (by omega)]
   ·rw[if_neg h2,if_neg (by omega)]
theorem qb9 (n:Nat)(b:List (List UInt8))(i a:Nat)(d:a<n):nm (Y2 n b i).now a=if a<i*118 then F7 (nth b (a / 118)) (a % 118) else 0:=by
 induction i with
 |zero=>
  rw[if_neg (by omega)];show nm (List.replicate n 0) a=0;unfold nm;simp[d]
 |succ i ih=>
  have h:=qh3 i (nth b i) (Y2 n b i) 118 a (by rw[qb8];exact d);rw[qb8,ih] at h;refine (show nm (Y2 n b (i+1)).now a=_ from h).trans ?_;by_cases h1:i*118<=a/\a<i*118+118
  ·rw[if_pos h1,if_pos (by omega),show a / 118=i by omega,show a % 118=a-i*118 by omega]
  ·rw[if_neg h1];by_cases h2:a<i*118
   ·rw[if_pos h2,if_pos (by omega)]
   ·rw[if_neg h2,if_neg (by omega)]
def Ct.res (C:Ct):Prop:=∀a,a<C.n->a<C.first->nm C.now a=0
def Ct.bodies (C:Ct):List (List UInt8):=(List.range (Qe C.n)).map λ(i:Nat)=>C.body (i:Int)
theorem Ct.Dz (C:Ct){i:Nat}(h:i<Qe C.n):nth C.bodies i=C.body (i:Int):=by
 unfold nth Ct.bodies;rw[List.getD_eq_getElem?_getD,List.getElem?_map,List.getElem?_range h];rfl
theorem Ct.Oo {C:Ct}(h:C.ok)(hr:C.res){i:Nat}(hi:i<Qe C.n):q57 C.n (2+2*Qe C.n) i (nth C.bodies i):=by
 rw[C.Dz hi];refine⟨Ct.Ug hi,λk b=>?_⟩;unfold Yy;rw[Ct.Sz h hi b];refine decide_eq_false ?_;rintro⟨h1,h2⟩;refine h1 ?_;unfold Ct.get;split
 ·rename_i d;have e:((i:Int)*118+(k:Int)).toNat=i*118+k:=by omega
  rw[e];rcases h2 with h2|h2
  ·exact hr _ (by omega) h2
  ·omega
 ·rfl
theorem Ct.Lr {C:Ct}(h:C.ok)(hr:C.res):Xf (C.n:Int) C.bodies=0/\Vu C.n C.bodies=C.commit:=by
 have B:C.bodies.length=Qe C.n:=by unfold Ct.bodies;rw[List.length_map,List.length_range]
 constructor
 ·unfold Xf;rw[Int.toNat_natCast,if_neg (λe=>e (by have:=h.1;omega)),if_neg];rintro (e|e)
  ·exact e B
  ·exact e λi A=>Ct.Oo h hr A
 ·have m:(Y2 C.n C.bodies (Qe C.n)).now=C.now:=by
   have h1:(Y2 C.n C.bodies (Qe C.n)).now.length=C.now.length:=qb8 _ _ _;refine List.ext_getElem h1 λa p d=>?_
   have y:a<C.n:=d;have b:=qb9 C.n C.bodies (Qe C.n) a y;have f:a / 118<Qe C.n:=by unfold Qe;omega
   rw[if_pos (by unfold Qe;omega),C.Dz f,Ct.Sz h f (Nat.mod_lt _ (by omega))] at b;have u:((a / 118:Nat):Int)*118+((a % 118:Nat):Int)=(a:Int):=by omega
   rw[u] at b;unfold Ct.get at b;rw[if_pos ⟨by omega,by omega⟩,Int.toNat_natCast] at b;unfold nm at b;simpa [p,d] using b
  unfold Vu Ct.commit;simp only[m]
theorem Ct.Bj {C D:Ct}(h:D.n=C.n):D.first=C.first:=by unfold Ct.first;rw[h]
theorem Ct.Au {C:Ct}(h:C.res){k:Nat}(x:Int)(hk:C.first<=k):(C.put k x).res:=λa b d=>by
 rw[C.Zi] at b;rw[Ct.Bj (C.Zi k x)] at d;rw[q6d C k x a b,if_neg (by omega)];exact h a b d
theorem Ct.Kw {C:Ct}(h:C.res){a:Int}(hg:¬C.get a=0):0<=a/\a<(C.n:Int)/\C.first<=a.toNat:=by
 obtain⟨h1,h2,d⟩:=Ct.Et hg;refine⟨h1,h2,?_⟩;rcases Nat.lt_or_ge a.toNat C.first with b|b
 ·exact absurd (d.trans (h a.toNat (by omega) b)) hg
 ·exact b
theorem Ct.Xk {C:Ct}{k:Nat}(h:C.pick=some k):k<C.n/\C.first<=k/\nm C.now k=0/\nm C.done k=0/\∀j,j<k->C.may j=false:=by
 unfold Ct.pick at h;rw[List.find?_range_eq_some] at h;obtain⟨h1,h2,b⟩:=h;unfold Ct.may Ct.U3 at h1;rw[Bool.and_eq_true,decide_eq_true_iff,decide_eq_true_iff] at h1;exact⟨List.mem_range.1 h2,h1.1,h1.2.1,h1.2.2,λj d=>by have:=b j d;simpa using this⟩
theorem Ct.Qad {C:Ct}(h:C.pick=none):∀j,j<C.n->C.may j=false:=λj b=>by
 unfold Ct.pick at h;rw[List.find?_eq_none] at h;have:=h j (List.mem_range.2 b);simpa using this
theorem Ct.Ws {C:Ct}(h:C.pick=none):C.free=0:=by
 unfold Ct.free Ct.Jw;rw[List.countP_eq_zero];intro j b;rw[Ct.Qad h j (List.mem_range.1 b)];simp
theorem Ct.Eo (C:Ct):C.alloc.n=C.n:=by unfold Ct.alloc;split;exact C.Zi _ _;rfl
theorem Ct.Qa1 (C:Ct)(a:Int):(C.ref a).n=C.n:=by unfold Ct.ref;split;exact C.Zi _ _;rfl
theorem Ct.Fj (C:Ct)(a:Int):(C.Qy a).n=C.n:=by unfold Ct.Qy;split;rfl;exact C.Zi _ _
theorem Ct.Sm {C:Ct}(h:C.ok):C.alloc.ok:=by unfold Ct.alloc;split;exact Ct.G9 h _ _ (by omega) (by omega);exact h
theorem Ct.Ol {C:Ct}(h:C.res):C.alloc.res:=by
 unfold Ct.alloc;split
 ·rename_i k b;exact Ct.Au h _ (Ct.Xk b).2.1
 ·exact h
theorem Ct.Qat {C:Ct}(h:C.res)(a:Int):(C.ref a).res:=by
 unfold Ct.ref;split
 ·rename_i b;have d:¬C.get a=0:=λe=>by unfold Ct.Y8 at b;rw[if_pos e] at b;omega
  exact Ct.Au h _ (Ct.Kw h d).2.2
 ·exact h
theorem Ct.Po {C:Ct}(h:C.res)(a:Int):(C.Qy a).res:=by
 unfold Ct.Qy;split
 ·exact h
 ·rename_i b;exact Ct.Au h _ (Ct.Kw h b).2.2
theorem Ct.Qas {C:Ct}(h:C.ok)(a:Int):(C.ref a).ok:=by
 unfold Ct.ref;split
 ·rename_i b;have d:=C.Jc h a;refine Ct.G9 h _ _ (by omega) ?_;unfold Ct.Y8 at b;split at b
  ·omega
  ·split at b<;>omega
 ·exact h
theorem Ct.Pn {C:Ct}(h:C.ok)(a:Int):(C.Qy a).ok:=by
 unfold Ct.Qy;split
 ·exact h
 ·have b:=C.Jc h a;exact Ct.G9 h _ _ (by omega) (by omega)
theorem Ct.Ip (n:Nat):(Ct.zero n).res:=λa b _=>by
 rw[Ct.Q9] at b;show nm (List.replicate n 0) a=0;unfold nm;simp[b]
theorem Ct.Eu (C:Ct)(j:Nat):C.may j=decide (C.first<=j/\nm C.now j=0/\nm C.done j=0):=by
 unfold Ct.may Ct.U3;rw[Bool.eq_iff_iff];simp
def Yt (w:World)(p o:Nat)(S:Nat->Prop)(C:Ct):Prop:=∃(a f b m:Nat) (t:TypeId) (d:Array Value),w.1[p]?=some (.cells d t (0,0))/\(d[o]?=some (.slice (some ⟨a,0,none⟩) C.n f)/\d[o+1]?=some (.slice (some ⟨b,0,none⟩) C.n m)/\d[o+2]?=some (.int .i64 (Qe C.n:Int))/\d[o+3]?=some (.int .i64 (C.first:Int)))/\J6 w a C.n f C.now/\J6 w b C.n m C.done/\(a≠b/\p≠a/\p≠b)/\(S a/\S b)/\C.ok
theorem Rj {w:World}{p k:Nat}{b:Array Value}{t:TypeId}{v:Value}(h:w.1[p]?=some (.cells b t (0,0)))(d:b[k]?=some v):w.cell? ⟨p,k,none⟩=some v:=by rw[cell_of_row _ _ _ _ _ _ h];exact d
theorem Yt.ok {w:World}{p o:Nat}{S:Nat->Prop}{C:Ct}(h:Yt w p o S C):C.ok:=by
 obtain⟨_,_,_,_,_,_,_,_,_,_,_,_,h⟩:=h;exact h
theorem Yt.lt {w:World}{p o:Nat}{S:Nat->Prop}{C:Ct}(h:Yt w p o S C):p<w.1.size:=by
 obtain⟨_,_,_,_,_,_,h,_⟩:=h;exact (Array.getElem?_eq_some_iff.1 h).1
theorem Yt.keep {w w':World}{p o:Nat}{S:Nat->Prop}{C:Ct}(h:Yt w p o S C)(hp:w'.1[p]?=w.1[p]?)(hk:∀k,k<w.1.size->S k->w'.1[k]?=w.1[k]?):Yt w' p o S C:=by
 obtain⟨a,u,b,y,t,d,h1,D,h2,m,A,f,B⟩:=h;exact⟨a,u,b,y,t,d,hp.trans h1,D,h2.keep (hk a h2.lt f.1),m.keep (hk b m.lt f.2),A,f,B⟩
theorem Yt.mono {w:World}{p o:Nat}{S S':Nat->Prop}{C:Ct}(h:Yt w p o S C)(hs:∀k,S k->S' k):Yt w p o S' C:=by
 obtain⟨a,m,b,u,t,d,h1,D,h2,y,A,f,B⟩:=h;exact⟨a,m,b,u,t,d,h1,D,h2,y,A,⟨hs _ f.1,hs _ f.2⟩,B⟩
theorem Yt.below {w w':World}{p o:Nat}{S:Nat->Prop}{C:Ct}(h:Yt w p o S C)(hb:Below w.1.size w w'):Yt w' p o S C:=h.keep (hb.block p h.lt) λk b _=>hb.block k b
theorem Yt.shrink {w:World}{p o:Nat}{S:Nat->Prop}{C:Ct}(h:Yt w p o S C):Yt w p o (λk=>S k/\k<w.1.size) C:=by
 obtain⟨a,u,b,y,t,d,h1,D,h2,f,A,m,B⟩:=h;exact⟨a,u,b,y,t,d,h1,D,h2,f,A,⟨⟨m.1,h2.lt⟩,⟨m.2,f.lt⟩⟩,B⟩
theorem Yt.around {w w':World}{p o p' o':Nat}{S:Nat->Prop}{C:Ct}{cur cur':Array Value}{t t':TypeId}(h:Yt w p o S C)(hp:w.1[p]?=some (.cells cur t (0,0)))(hp':w'.1[p']?=some (.cells cur' t' (0,0)))
  (hc:∀j,j<4->cur'[o'+j]?=cur[o+j]?) (hne:∀k,S k->p'≠k) (hk:∀k,k<w.1.size->S k->w'.1[k]?=w.1[k]?):Yt w' p' o' S C:=by
 obtain⟨a,y,b,A,t,m,h1,f,h2,u,B,d,D⟩:=h;rw[hp] at h1;injection h1 with h1;injection h1 with h1 _ _;subst h1;exact⟨a,y,b,A,t',cur',hp',⟨(hc 0 (by omega)).trans f.1,(hc 1 (by omega)).trans f.2.1,(hc 2 (by omega)).trans f.2.2.1,(hc 3 (by omega)).trans f.2.2.2⟩,h2.keep (hk a h2.lt d.1),u.keep (hk b u.lt d.2),⟨B.1,hne a d.1,hne b d.2⟩,d,D⟩
theorem Yt.open_ {w:World}{p o:Nat}{S:Nat->Prop}{C:Ct}(H:Yt w p o S C):∃g d b f:Nat,w.cell? ⟨p,o,none⟩=some (.slice (some ⟨g,0,none⟩) C.n d)/\w.cell? ⟨p,o+1,none⟩=some (.slice (some ⟨b,0,none⟩) C.n f)/\w.cell? ⟨p,o+2,none⟩=some (.int .i64 (Qe C.n:Int))/\w.cell? ⟨p,o+3,none⟩=some (.int .i64 (C.first:Int))/\
  (C.n<=d/\d<=9223372036854775807)/\(C.n<=f/\f<=9223372036854775807)/\(∀k,k<C.n->w.cell? ⟨g,k,none⟩=some (.int .i64 (nm C.now k))/\w.frozen? ⟨g,k,none⟩=false)/\(∀k,k<C.n->w.cell? ⟨b,k,none⟩=some (.int .i64 (nm C.done k)))/\
  (∀(k:Nat) (x:Int),k<C.n->0<=x->x<=65535->Yt (w.setCell ⟨g,k,none⟩ (.int .i64 x)) p o S (C.put k x)/\Turn S w (w.setCell ⟨g,k,none⟩ (.int .i64 x))/\(w.setCell ⟨g,k,none⟩ (.int .i64 x)).cell? ⟨p,o,none⟩=some (.slice (some ⟨g,0,none⟩) C.n d)/\(w.setCell ⟨g,k,none⟩ (.int .i64 x)).cell? ⟨g,k,none⟩=some (.int .i64 x)):=by
 obtain⟨g,d,b,f,t,u,h1,⟨E,M,O,Q⟩,h2,y,A,F,R⟩:=H;have J:=h2.cap;have K:=y.cap;unfold maxLen at J K;refine⟨g,d,b,f,Rj h1 E,Rj h1 M,Rj h1 O,Rj h1 Q,⟨J.1,by omega⟩,⟨K.1,by omega⟩,λk m=>h2.at_ m,λk m=>(y.at_ m).1,λk x m B D=>?_⟩;have e:∀j,j≠g->(w.setCell ⟨g,k,none⟩ (.int .i64 x)).1[j]?=w.1[j]?:=λj U=>Below.heap_setCell _ _ _ _ (by show j≠g;exact U)
 have I:=(e p A.2.1).trans h1;have G:=h2.Vr k x;have T:(C.put k x).first=C.first:=by unfold Ct.first;rw[C.Zi]
 refine⟨⟨g,d,b,f,t,u,I,?_,?_,?_,A,F,C.G9 R k x B D⟩,Ez (a:=⟨g,k,none⟩) _ F.1,Rj I E,?_⟩
 ·rw[C.Zi,T];exact⟨E,M,O,Q⟩
 ·rw[C.Zi];exact G
 ·rw[C.Zi];exact y.keep (e b (Ne.symm A.1))
 ·have:=(G.at_ m).1;rw[q4e _ _ _ (by rw[h2.len];exact m)] at this;exact this
theorem q2p {w:World}{p o:Nat}{S:Nat->Prop}{C:Ct}(H:Yt w p o S C)(a x:Int)(A:C.get a=x) :
  Calls Tryz.prog 71 #[.pointer (some ⟨p,o,none⟩),.int .i64 a] w λe w'=>e=.returned (.int .i64 x)/\w=w':=by
 obtain⟨g,G,b,F,c0,c1,c2,c3,K,M,f,m,y⟩:=H.open_;have u:=Lib.hid f;clear f m y c1 c2 c3;by_cases h0:0<=a
 ·obtain⟨k,rfl⟩:=Int.eq_ofNat_of_zero_le h0;by_cases E:k<C.n
  ·have d:=Lib.hid (show x=nm C.now k by rw[<-A];unfold Ct.get;rw[if_pos (by omega)];rfl);obtain⟨J,_⟩:=u.out k E;have B:¬(k:Int)<0:=by omega
   have D:¬(C.n:Int)<=(k:Int):=by omega
   have I:(k:Int)<(C.n:Int):=by omega
   go_enter Tryz.func71,Tryz.ntmps71
   go_wp2;go_ret;exact⟨by rw[d.out];rfl,rfl⟩
  ·have d:=Lib.hid (show x=0 by rw[<-A];unfold Ct.get;rw[if_neg (by omega)]);have B:¬(k:Int)<0:=by omega
   have D:(C.n:Int)<=(k:Int):=by omega
   go_enter Tryz.func71,Tryz.ntmps71
   go_wp2;go_ret;exact⟨by rw[d.out];rfl,rfl⟩
 ·have d:=Lib.hid (show x=0 by rw[<-A];unfold Ct.get;rw[if_neg (by omega)]);have B:a<0:=by omega
  go_enter Tryz.func71,Tryz.ntmps71
  go_wp2;go_ret;exact⟨by rw[d.out];rfl,rfl⟩
def Ct.counted (C:Ct)(a:Nat):Bool:=decide (C.first<=a/\a<C.n)
theorem q2e {w:World}{p o:Nat}{S:Nat->Prop}{C:Ct}(H:Yt w p o S C)(a:Nat)(r:Bool)(E:C.counted a=r) :
  Calls Tryz.prog 136 #[.pointer (some ⟨p,o,none⟩),.int .i64 (a:Int)] w λe w'=>e=.returned (.bool r)/\w=w':=by
 obtain⟨g,I,b,G,c0,c1,c2,c3,J,K,y,d,A⟩:=H.open_;clear y d A c1 c2;obtain⟨f,B⟩:∃f,C.first=f:=⟨_,rfl⟩
 have m:=Lib.hid (show r=decide (f<=a/\a<C.n) by rw[<-E,<-B];rfl);rw[B] at c3;clear B E;by_cases h1:f<=a
 ·by_cases h2:a<C.n
  ·have u:=Lib.hid (show r=true by rw[m.out];exact decide_eq_true ⟨h1,h2⟩);have D:(f:Int)<=(a:Int):=by omega
   have F:(a:Int)<(C.n:Int):=by omega
   go_enter Tryz.func136,Tryz.ntmps136
   go_wp2;go_ret;exact⟨by rw[u.out];rfl,rfl⟩
  ·have u:=Lib.hid (show r=false by rw[m.out];exact decide_eq_false λh=>h2 h.2);have D:(f:Int)<=(a:Int):=by omega
   have F:¬(a:Int)<(C.n:Int):=by omega
   go_enter Tryz.func136,Tryz.ntmps136
   go_wp2;go_ret;exact⟨by rw[u.out];rfl,rfl⟩
 ·have u:=Lib.hid (show r=false by rw[m.out];exact decide_eq_false λh=>h1 h.1);have D:¬(f:Int)<=(a:Int):=by omega
  go_enter Tryz.func136,Tryz.ntmps136
  go_wp2;go_ret;exact⟨by rw[u.out];rfl,rfl⟩
theorem qfp {w:World}{p o:Nat}{S:Nat->Prop}{C:Ct}(H:Yt w p o S C)(k:Nat)(B:k<C.n)(r:Bool)(F:C.may k=r) :
  Calls Tryz.prog 101 #[.pointer (some ⟨p,o,none⟩),.int .i64 (k:Int)] w λe w'=>e=.returned (.bool r)/\w=w':=by
 obtain⟨g,K,b,J,c0,c1,c2,c3,R,T,u,d,A⟩:=H.open_;obtain⟨I,_⟩:=u k B;have hd:=d k B;clear u d A c2 c3;obtain⟨x,D⟩:∃x,nm C.now k=x:=⟨_,rfl⟩;obtain⟨y,E⟩:∃y,nm C.done k=y:=⟨_,rfl⟩;have hm:=Lib.hid (show r=(decide (C.first<=k)&&decide (x=0/\y=0)) by rw[<-F,<-D,<-E];rfl);rw[D] at I;rw[E] at hd;clear D E F;have M:(k:Int)<(C.n:Int):=by omega
 have O:¬(C.n:Int)<=(k:Int):=by omega
 by_cases h1:C.first<=k
 ·have f:=Lib.hid (show C.counted k=true from decide_eq_true ⟨h1,B⟩);have hm:=Lib.hid (show r=decide (x=0/\y=0) by rw[hm.out,decide_eq_true h1,Bool.true_and]);clear h1;by_cases m:x=0
  ·have hm:=Lib.hid (show r=decide (y=0) by rw[hm.out];simp[m]);subst m;go_enter Tryz.func101,Tryz.ntmps101
   go_wp2_with fail
   refine (q2e H k true f.out).mono ?_;rintro e G ⟨rfl,rfl⟩;go_wp2;go_ret;exact⟨by rw[hm.out];first|rfl|(refine congrArg (λx=>Ending.returned (Value.bool x)) ?_;rw[Bool.eq_iff_iff];simp),rfl⟩
  ·have hm:=Lib.hid (show r=false by rw[hm.out];exact decide_eq_false λh=>m h.1);have Q:(x==0)=false:=by simpa using m
   go_enter Tryz.func101,Tryz.ntmps101
   go_wp2_with fail
   refine (q2e H k true f.out).mono ?_;rintro e G ⟨rfl,rfl⟩;go_wp2;go_ret;exact⟨by rw[hm.out];rfl,rfl⟩
 ·have f:=Lib.hid (show C.counted k=false from decide_eq_false λh=>h1 h.1);have hm:=Lib.hid (show r=false by rw[hm.out,decide_eq_false h1,Bool.false_and]);clear h1;go_enter Tryz.func101,Tryz.ntmps101
  go_wp2_with fail
  refine (q2e H k false f.out).mono ?_;rintro e G ⟨rfl,rfl⟩;go_wp2;go_ret;exact⟨by rw[hm.out];rfl,rfl⟩
theorem Qbc (x:Int)(w:World) :
  Calls Tryz.prog 126 #[.slice none 0 0,.int .i64 x,.int .i64 2] w λe w'=>∃b d,e=.returned (.slice b 2 d)/\Sl w' b 2 d (Zc x 2)/\Below w.1.size w w':=by
 have f:=q9l none 0 0 [] x 2 w (q24 w) (by omega);rw[show Ce [] x 2=Zc x 2 from rfl] at f;refine f.mono ?_;rintro e w' ⟨b,u,d,rfl,own,p⟩;have m:=own.len;rw[Yl] at m;subst m;exact⟨b,d,rfl,own.sl,p⟩
theorem qfq {w:World}{p o:Nat}{S:Nat->Prop}{C:Ct}(H:Yt w p o S C)(i:Int) :
  Calls Tryz.prog 86 #[.pointer (some ⟨p,o,none⟩),.int .i64 i] w λe w'=>∃A n c,e=.returned (.slice A n c)/\Sl w' A n c (C.body i)/\Below w.1.size w w'/\∀D,A=some D->w.1.size<=D.block:=by
 obtain⟨d,hm⟩:∃m,Qe C.n=m:=⟨_,rfl⟩;have a6:=H.ok.1;have a2:d<=1000:=by rw[<-hm];unfold Qe;omega
 obtain⟨g,cg,b,cb,c0,c1,c2,c3,k1,k2,K,B,M⟩:=H.open_;clear K B M c1 c0 c3 k1 k2;rw[hm] at c2;have Hm:=Lib.hid hm;clear hm;by_cases W:0<=i/\i<(d:Int)
 ·have f:=Lib.hid (show C.body i=C.Zz (i*118) 118 by unfold Ct.body;rw[Hm.out,if_pos W]);obtain⟨q,rfl⟩:=Int.eq_ofNat_of_zero_le W.1;have e1:¬(q:Int)<0:=by omega
  have e2:¬(d:Int)<=(q:Int):=by omega
  have hq:q<d:=by omega
  have d1:decide ((q:Int)<0)=false:=by simp
  have d2:decide ((d:Int)<=(q:Int))=false:=by simp;omega
  have d3:decide (d<=q)=false:=by simp;omega
  go_enter Tryz.func86,Tryz.ntmps86
  go_wp2_with (first
   |(at_make;refine qf2 _ Gy rfl _ _ rfl _ _ 236 rfl rfl (by omega) ?_)
   |fail)
  intro w1 Ic I;go_wp2_with fail
  go_loopw [5,6,18] (λb _ k wr=>∃(j:Nat) (Q:Option Addr) (R:Nat),j<=118/\k=.int .i64 (j:Int)/\b=.slice Q (2*j) R/\Own wr w.1.size 5 Q (2*j) R (C.Zz ((q:Int)*118) j)/\Below w.1.size w wr) (λ_ _ k _=>118-(intOf k).toNat)
  case atStart=>exact⟨0,_,_,by omega,rfl,rfl,Ic,I⟩
  case round=>
   clear Ic I;obtain⟨j,Q,R,hj,rfl,rfl,own,T⟩:=hrel;by_cases a1:j<118
   ·have Hr:=H.below T;have e3:(j:Int)<118:=by omega
    obtain⟨x,Y⟩:∃x,C.get ((q:Int)*118+(j:Int))=x:=⟨_,rfl⟩;have y:=Lib.hid (show C.Zz ((q:Int)*118) (j+1)=C.Zz ((q:Int)*118) j++Zc x 2 by rw[<-Y];rfl);have Hx:=Lib.hid Y;clear Y c2;go_wp2_with fail
    refine (q2p Hr _ x Hx.out).mono ?_;rintro e w3 ⟨rfl,rfl⟩;go_wp2_with fail
    refine (Qbc x wr).mono ?_;rintro e w4 ⟨A4,c4,rfl,Z,J⟩;have O:=own.below J;have G:=T.trans (J.mono T.size);go_wp2_with (at_builtin;refine q9j _ Gy rfl _ _ rfl w.1.size Q (2*j) R _ rfl O A4 2 c4 _ rfl Z (by omega) G.size ?_)
    intro A5 c5 w5 u U;rw[<-y.out] at u;go_wp2;exact⟨⟨j+1,A5,c5,by omega,by go_num,rfl,u,G.trans U⟩,by simp[intOf];omega⟩
   ·have X:j=118:=by omega
    subst X;have F:=own.sl;have E:=λD e=>(own.block D e).1
    go_wp2;go_ret;rw[f.out];exact⟨_,_,_,rfl,F,T,E⟩
 ·have f:=Lib.hid (show C.body i=[] by unfold Ct.body;rw[Hm.out,if_neg W]);by_cases h0:i<0
  ·go_enter Tryz.func86,Tryz.ntmps86
   go_wp2;go_ret;rw[f.out];exact⟨_,_,_,rfl,q24 _,Below.refl _ _,λD e=>by cases e⟩
  ·have e2:(d:Int)<=i:=by omega
   have e1:¬i<0:=h0;go_enter Tryz.func86,Tryz.ntmps86
   go_wp2;go_ret;rw[f.out];exact⟨_,_,_,rfl,q24 _,Below.refl _ _,λD e=>by cases e⟩
theorem qss {w:World}{p o:Nat}{S:Nat->Prop}{C:Ct}(H:Yt w p o S C)(a:Int) :
  Calls Tryz.prog 47 #[.pointer (some ⟨p,o,none⟩),.int .i64 a] w λe w'=>e=.returned (.int .i64 (C.Y8 a))/\Yt w' p o S (C.ref a)/\Turn S w w':=by
 obtain⟨x,d⟩:∃x,C.get a=x:=⟨_,rfl⟩;have K:=C.Jc H.ok a;rw[d] at K;by_cases h0:x=0
 ·have f:C.Y8 a=1:=by unfold Ct.Y8;rw[d,if_pos h0]
  have A:C.ref a=C:=by unfold Ct.ref;rw[f,if_neg (by decide)]
  rw[f,A];subst h0;go_enter Tryz.func47,Tryz.ntmps47
  go_wp2_with fail
  refine (q2p H a 0 d).mono ?_;rintro e F ⟨rfl,rfl⟩;go_wp2;go_ret;exact⟨rfl,H,Turn.refl _ _⟩
 ·by_cases h1:x=65535
  ·have f:C.Y8 a=7:=by unfold Ct.Y8;rw[d,if_neg h0,if_pos h1]
   have A:C.ref a=C:=by unfold Ct.ref;rw[f,if_neg (by decide)]
   rw[f,A];subst h1;go_enter Tryz.func47,Tryz.ntmps47
   go_wp2_with fail
   refine (q2p H a 65535 d).mono ?_;rintro e F ⟨rfl,rfl⟩;go_wp2;go_ret;exact⟨rfl,H,Turn.refl _ _⟩
  ·have f:C.Y8 a=0:=by unfold Ct.Y8;rw[d,if_neg h0,if_neg h1]
   have A:C.ref a=C.put a.toNat (x+1):=by unfold Ct.ref;rw[f,if_pos rfl,d]
   have E:=Lib.hid f;have D:=Lib.hid A;obtain⟨Q,X,B⟩:=Ct.Et (C:=C) (a:=a) (by rw[d];exact h0);obtain⟨k,rfl⟩:=Int.eq_ofNat_of_zero_le Q;rw[Int.toNat_natCast] at B;rw[d] at B;obtain⟨g,T,b,R,c0,c1,c2,c3,Y,Z,m,y,u⟩:=H.open_;obtain⟨M,O⟩:=m k (by omega);rw[<-B] at M;obtain⟨G,J,U,W⟩:=u k (x+1) (by omega) (by omega) (by omega);have I:=Lib.hid d;have j1:¬(C.n:Int)<=(k:Int):=by omega
   clear f A B m y u;go_enter Tryz.func47,Tryz.ntmps47
   go_wp2_with fail
   refine (q2p H k x I.out).mono ?_;rintro e F ⟨rfl,rfl⟩;go_wp2;go_ret;rw[E.out,D.out];exact⟨rfl,G,J⟩
theorem qlv {w:World}{p o:Nat}{S:Nat->Prop}{C:Ct}(H:Yt w p o S C)(a:Int) :
  Calls Tryz.prog 190 #[.pointer (some ⟨p,o,none⟩),.int .i64 a] w λe w'=>e=.returned (.tuple #[.int .i64 (C.Ju a),.int .i64 (C.Jz a)])/\Yt w' p o S (C.Qy a)/\Turn S w w':=by
 obtain⟨x,y⟩:∃x,C.get a=x:=⟨_,rfl⟩;have G:=C.Jc H.ok a;rw[y] at G;by_cases h0:x=0
 ·have A:C.Jz a=1/\C.Ju a=0/\C.Qy a=C:=by unfold Ct.Jz Ct.Ju Ct.Qy;rw[y,if_pos h0,if_pos h0,if_pos h0];exact⟨rfl,rfl,rfl⟩
  rw[A.1,A.2.1,A.2.2];subst h0;go_enter Tryz.func190,Tryz.ntmps190
  go_wp2_with fail
  refine (q2p H a 0 y).mono ?_;rintro e M ⟨rfl,rfl⟩;go_wp2;go_ret2;exact⟨rfl,H,Turn.refl _ _⟩
 ·have A:C.Jz a=0/\C.Ju a=x-1/\C.Qy a=C.put a.toNat (x-1):=by unfold Ct.Jz Ct.Ju Ct.Qy;rw[y,if_neg h0,if_neg h0,if_neg h0];exact⟨rfl,rfl,rfl⟩
  have m:=Lib.hid A;obtain⟨K,U,B⟩:=Ct.Et (C:=C) (a:=a) (by rw[y];exact h0);obtain⟨k,rfl⟩:=Int.eq_ofNat_of_zero_le K;rw[Int.toNat_natCast] at B;rw[y] at B;obtain⟨g,Q,b,O,c0,c1,c2,c3,W,X,d,u,f⟩:=H.open_;obtain⟨I,J⟩:=d k (by omega);rw[<-B] at I;obtain⟨D,F,R,T⟩:=f k (x-1) (by omega) (by omega) (by omega);have E:=Lib.hid y;have j1:¬(C.n:Int)<=(k:Int):=by omega
  clear A B d u f;go_enter Tryz.func190,Tryz.ntmps190
  go_wp2_with fail
  refine (q2p H k x E.out).mono ?_;rintro e M ⟨rfl,rfl⟩;go_wp2;go_ret2;rw[m.out.1,m.out.2.1,m.out.2.2];exact⟨rfl,D,F⟩
theorem qlw {w:World}{p o:Nat}{S:Nat->Prop}{C:Ct}(H:Yt w p o S C)(a:Int)(r:Bool)(E:C.fresh a=r) :
  Calls Tryz.prog 169 #[.pointer (some ⟨p,o,none⟩),.int .i64 a] w λe w'=>e=.returned (.bool r)/\w=w':=by
 subst E;obtain⟨x,f⟩:∃x,C.get a=x:=⟨_,rfl⟩;by_cases h0:x=0
 ·have m:C.fresh a=false:=by unfold Ct.fresh;rw[f,if_pos h0]
  rw[m];subst h0;go_enter Tryz.func169,Tryz.ntmps169
  go_wp2_with fail
  refine (q2p H a 0 f).mono ?_;rintro e I ⟨rfl,rfl⟩;go_wp2;go_ret;exact⟨rfl,rfl⟩
 ·have m:=Lib.hid (show C.fresh a=decide (nm C.done a.toNat=0) by unfold Ct.fresh;rw[f,if_neg h0]);obtain⟨F,M,G⟩:=Ct.Et (C:=C) (a:=a) (by rw[f];exact h0);obtain⟨k,rfl⟩:=Int.eq_ofNat_of_zero_le F;rw[Int.toNat_natCast] at m;obtain⟨g,K,b,J,c0,c1,c2,c3,O,Q,u,d,A⟩:=H.open_;have hd:=d k (by omega);obtain⟨y,B⟩:∃y,nm C.done k=y:=⟨_,rfl⟩;rw[B] at hd m;have D:=Lib.hid f;have j1:¬(C.n:Int)<=(k:Int):=by omega
  clear G u d A B f;go_enter Tryz.func169,Tryz.ntmps169
  go_wp2_with fail
  refine (q2p H k x D.out).mono ?_;rintro e I ⟨rfl,rfl⟩;go_wp2;go_ret;exact⟨by rw[m.out];first|rfl|(refine congrArg (λx=>Ending.returned (Value.bool x)) ?_;rw[Bool.eq_iff_iff];simp[h0]),rfl⟩
theorem qc7 {w:World}{p o:Nat}{S:Nat->Prop}{C:Ct}(H:Yt w p o S C) :
  Calls Tryz.prog 167 #[.pointer (some ⟨p,o,none⟩)] w λe w'=>e=.returned (.tuple #[.int .i64 C.Uy,.int .i64 C.Uf])/\Yt w' p o S C.alloc/\Turn S w w':=by
 have T:=H.ok.1;obtain⟨g,X,b,W,c0,c1,c2,c3,k1,U,u,B,y⟩:=H.open_;have E:=Lib.hid y;have D:=Lib.hid u;clear y u B c1 c2 c3 U;go_enter Tryz.func167,Tryz.ntmps167
 go_wp2_with fail
 go_loop [4,10] (λ_ i=>∃k:Nat,k<=C.n/\i=.int .i64 (k:Int)/\∀j,j<k->C.may j=false) (λ_ i=>C.n-(intOf i).toNat)
 case atStart=>exact⟨0,Nat.zero_le _,rfl,λj J=>absurd J (Nat.not_lt_zero _)⟩
 case round=>
  obtain⟨k,hk,rfl,d⟩:=hrel;by_cases f:k<C.n
  ·obtain⟨hc,R⟩:=D.out k f;obtain⟨M,O,Y,Z⟩:=E.out k 1 f (by omega) (by omega);obtain⟨r,K⟩:∃r,C.may k=r:=⟨_,rfl⟩;have G:=Lib.hid K;have m:=Lib.hid d;have Q:(k:Int)<(C.n:Int):=by omega
   have e0:(0:Int)<=(k:Int):=by omega
   clear K d;go_wp2_with fail
   refine (qfp H k f r G.out).mono ?_;rintro e w1 ⟨rfl,rfl⟩
   cases r with
   |true=>
    have A:=Lib.hid (Ct.Xv (C:=C) (k:=k) (Ct.O0 f G.out m.out));go_wp2;go_ret2;rw[A.out.1,A.out.2.1,A.out.2.2];exact⟨rfl,M,O⟩
   |false=>
    go_wp2;refine⟨⟨k+1,by omega,by go_num,λj J=>?_⟩,by simp[intOf];omega⟩;by_cases I:j=k
    ·rw[I];exact G.out
    ·exact m.out j (by omega)
  ·have F:k=C.n:=by omega
   have Q:¬(k:Int)<(C.n:Int):=by omega
   have A:=Lib.hid (Ct.Vm (Ct.Oz (C:=C) (by rw[<-F];exact d)));clear d F;go_wp2;go_ret2;rw[A.out.1,A.out.2.1,A.out.2.2];exact⟨rfl,H,Turn.refl _ _⟩
