/- Counts as plain data; the reference's counts as they lie; its Get, Ref, Unref, Fresh, Firs -/
import Derived.Test.YthkfkhejjmhomaaGreatDoorDz3
import Derived.Test.YthkfkhejjmhomaaGreatDoorDz4
import Derived.Deep.RegionHeld3
namespace Go.Proofs.YthkfkhejjmhomaaGreatDoor
open Go Go.RowKit Go.Proofs
set_option maxHeartbeats 4000000
set_option maxRecDepth 10000
def cv (x:Int):Value:=.int .i64 x
theorem Zed (l:List Int):∀u∈l.map cv,u.oneCell'=true:=by
 intro u d;obtain⟨_,_,rfl⟩:=List.mem_map.1 d;rfl
def nm (l:List Int)(k:Nat):Int:=l.getD k 0
theorem Gj (l:List Int)(k:Nat)(x:Int)(h:k<l.length):nm (l.set k x) k=x:=by simp[nm,h]
theorem Ui (l:List Int)(k j:Nat)(x:Int)(h:k≠j):nm (l.set k x) j=nm l j:=by simp[nm,h]
structure Ct where
 now:List Int
 done:List Int
 same:done.length=now.length
def Ct.n (C:Ct):Nat:=C.now.length
def Ct.first (C:Ct):Nat:=2+2*Qi C.n
def Ct.get (C:Ct)(a:Int):Int:=if 0<=a/\a<(C.n:Int) then nm C.now a.toNat else 0
def Ct.put (C:Ct)(k:Nat)(x:Int):Ct:=⟨C.now.set k x,C.done,by rw[List.length_set];exact C.same⟩
def Ct.Xc (C:Ct)(a:Int):Int:=if C.get a=0 then 1 else if C.get a=65535 then 7 else 0
def Ct.ref (C:Ct)(a:Int):Ct:=if C.Xc a=0 then C.put a.toNat (C.get a+1) else C
def Ct.Jc (C:Ct)(a:Int):Int:=if C.get a=0 then 1 else 0
def Ct.Oa (C:Ct)(a:Int):Int:=if C.get a=0 then 0 else C.get a-1
def Ct.Zf (C:Ct)(a:Int):Ct:=if C.get a=0 then C else C.put a.toNat (C.get a-1)
def Ct.fresh (C:Ct)(a:Int):Bool:=if C.get a=0 then false else decide (nm C.done a.toNat=0)
def Ct.Z7 (C:Ct)(k:Nat):Bool:=decide (nm C.now k=0/\nm C.done k=0)
def Ct.commit (C:Ct):Ct:=⟨C.now,C.now,rfl⟩
def Ct.ok (C:Ct):Prop:=(32<=C.n/\C.n<=2048)/\∀k,k<C.n->0<=nm C.now k/\nm C.now k<=65535
theorem Ct.Q5 {C:Ct}(h:C.ok)(a:Int):0<=C.get a/\C.get a<=65535:=by
 unfold Ct.get;split
 ·exact h.2 _ (by omega)
 ·omega
theorem Ct.Yn {C:Ct}{a:Int}(h:¬C.get a=0):0<=a/\a<(C.n:Int)/\C.get a=nm C.now a.toNat:=by
 unfold Ct.get at h ⊢;split at h
 ·rename_i h2;rw[if_pos h2];exact⟨h2.1,h2.2,rfl⟩
 ·exact absurd rfl h
theorem Ct.Qc (C:Ct)(k:Nat)(x:Int):(C.put k x).n=C.n:=List.length_set
theorem Ct.Xp {C:Ct}(h:C.ok)(k:Nat)(x:Int)(h1:0<=x)(h2:x<=65535):(C.put k x).ok:=by
 refine⟨by rw[C.Qc];exact h.1,λj d=>?_⟩;rw[C.Qc] at d;show 0<=nm (C.now.set k x) j/\nm (C.now.set k x) j<=65535;by_cases f:k=j
 ·subst f;rw[Gj _ _ _ d];exact⟨h1,h2⟩
 ·rw[Ui _ _ _ _ f];exact h.2 j d
theorem Ct.Quw {C:Ct}(h:C.ok):C.commit.ok:=h
def Qz (w:World)(g n c:Nat)(l:List Int):Prop:=w.ownsRow 0 3 1 (.slice (some ⟨g,0,none⟩) n c) n (l.map cv)
section
variable {w w':World}{g n c:Nat}{l:List Int}
theorem Qz.len (h:Qz w g n c l):l.length=n:=by have:=h.1;simpa using this
theorem Qz.cap (h:Qz w g n c l):n<=c/\c<=maxLen:=by
 rcases h.2 with⟨d,_⟩|⟨u,cap,m,d,_,_,h1,h2,_⟩
 ·injection d with f;cases f
 ·injection d with f p q;omega
theorem Qz.lt (h:Qz w g n c l):g<w.1.size:=by
 rcases h.2 with⟨f,_⟩|⟨q,cap,m,f,_,p,_⟩
 ·injection f with d;cases d
 ·injection f with d;injection d with d;injection d with d;subst d;exact (Array.getElem?_eq_some_iff.1 p).1
theorem Qz.keep (h:Qz w g n c l)(hk:w'.1[g]?=w.1[g]?):Qz w' g n c l:=Un h λq d=>by
 have:q=g:=by
  have:(Value.slice (some ⟨g,0,none⟩) n c).ownBlock=some g:=rfl;rw[this] at d;exact (Option.some.inj d).symm
 rw[this];exact hk
theorem Qz.at_ (h:Qz w g n c l){j:Nat}(hj:j<n):w.cell? ⟨g,j,none⟩=some (.int .i64 (nm l j))/\w.frozen? ⟨g,j,none⟩=false:=by
 have d:=h.len;refine⟨?_,World.ownsRow.frozenAt h j⟩;rw[World.ownsRow.cellAt h j (by omega),List.getElem?_map,List.getElem?_eq_getElem (by omega)];unfold nm;rw[List.getD_eq_getElem?_getD,List.getElem?_eq_getElem (by omega)];rfl
theorem Qz.Xe (h:Qz w g n c l)(j:Nat)(x:Int):Qz (w.setCell ⟨g,j,none⟩ (.int .i64 x)) g n c (l.set j x):=by
 unfold Qz;rw[List.map_set];exact (World.ownsRow.stored h j (cv x)).1
end
def RC (w:World)(p:Nat)(S:Nat->Prop)(C:Ct):Prop:=∃(a d b f:Nat) (t:TypeId),w.1[p]?=some (.cells #[.slice (some ⟨a,0,none⟩) C.n d,.slice (some ⟨b,0,none⟩) C.n f] t (0,0))/\Qz w a C.n d C.now/\Qz w b C.n f C.done/\(a≠b/\p≠a/\p≠b)/\(S p/\S a/\S b)/\C.ok
theorem RC.ok {w:World}{p:Nat}{S:Nat->Prop}{C:Ct}(h:RC w p S C):C.ok:=by
 obtain⟨_,_,_,_,_,_,_,_,_,_,h⟩:=h;exact h
theorem RC.mono {w:World}{p:Nat}{S S':Nat->Prop}{C:Ct}(h:RC w p S C)(hs:∀k,S k->S' k):RC w p S' C:=by
 obtain⟨a,f,b,m,t,h1,h2,q,u,d,y⟩:=h;exact⟨a,f,b,m,t,h1,h2,q,u,⟨hs _ d.1,hs _ d.2.1,hs _ d.2.2⟩,y⟩
def Ct.may (C:Ct)(j:Nat):Bool:=decide (C.first<=j)&&C.Z7 j
def Ct.pick (C:Ct):Option Nat:=(List.range C.n).find? C.may
def Ct.Jr (C:Ct):Int:=match C.pick with|some _=>0|none=>6
def Ct.Js (C:Ct):Int:=match C.pick with|some k=>(k:Int)|none=>0
def Ct.alloc (C:Ct):Ct:=match C.pick with|some k=>C.put k 1|none=>C
def Ct.Q8 (C:Ct)(k:Nat):Nat:=(List.range k).countP C.may
def Ct.free (C:Ct):Nat:=C.Q8 C.n
theorem Ct.Qwo {C:Ct}{k:Nat}(hk:k<C.n)(h:C.may k=true)(hall:∀j,j<k->C.may j=false):C.pick=some k:=by
 unfold Ct.pick;rw[List.find?_range_eq_some];exact⟨h,List.mem_range.2 hk,λj d=>by rw[hall j d];rfl⟩
theorem Ct.Qwn {C:Ct}(hall:∀j,j<C.n->C.may j=false):C.pick=none:=by
 unfold Ct.pick;rw[List.find?_eq_none];intro j d;rw[hall j (List.mem_range.1 d)];simp
theorem Ct.Zi {C:Ct}{k:Nat}(h:C.pick=some k):C.Jr=0/\C.Js=(k:Int)/\C.alloc=C.put k 1:=by
 unfold Ct.Jr Ct.Js Ct.alloc;rw[h];exact⟨rfl,rfl,rfl⟩
theorem Ct.Qb1 {C:Ct}(h:C.pick=none):C.Jr=6/\C.Js=0/\C.alloc=C:=by
 unfold Ct.Jr Ct.Js Ct.alloc;rw[h];exact⟨rfl,rfl,rfl⟩
theorem Ct.Zr (C:Ct)(k:Nat):C.Q8 (k+1)=C.Q8 k+(if C.may k=true then 1 else 0):=by
 unfold Ct.Q8;rw[List.range_succ,List.countP_append,List.countP_singleton]
structure Zf6 (P:Program)(t e:TypeId):Prop where
 sl:P.underlying t=some (.slice e)
 info:(P.info? e).map (λi=>(i.zero,i.size,i.bytes))=some (some (.int .i64 0),1,8)
theorem TN:Zf6 Tryz.prog 67 3:=⟨Tryz.underlying67,by kernel_rfl⟩
section
variable {P:Program}{t e:TypeId}(w:World)
end
theorem Qz.cells {w:World}{g n c:Nat}{l:List Int}(h:Qz w g n c l):∀(j:Nat) u,(l.map cv)[j]?=some u->w.cell? ((⟨g,0,none⟩:Addr).add j)=some u:=λj u d=>by
 have f:j<n:=by have:=(List.getElem?_eq_some_iff.1 d).1;rw[List.length_map,h.len] at this;exact this
 rw[Addr.add_mid,Nat.zero_add,World.ownsRow.cellAt h j (by omega),d]
def Ct.zero (n:Nat):Ct:=⟨List.replicate n 0,List.replicate n 0,rfl⟩
theorem Ct.Qg (n:Nat):(Ct.zero n).n=n:=List.length_replicate
theorem Ct.J7 {n:Nat}(h1:32<=n)(h2:n<=2048):(Ct.zero n).ok:=by
 refine⟨by rw[Ct.Qg];exact⟨h1,h2⟩,λk d=>?_⟩;rw[Ct.Qg] at d;show 0<=nm (List.replicate n 0) k/\nm (List.replicate n 0) k<=65535;unfold nm;simp[d]
section
variable {P:Program}{t e:TypeId}(w:World)
theorem Qzp (n:Nat):(madeCells (Value.int .i64 0).cells (n*1)).toList=(List.replicate n (0:Int)).map cv:=by
 rw[show (Value.int .i64 0).cells=#[.int .i64 0] from rfl,Nat.mul_one,toList_madeCells_one];simp[cv]
end
def mkI (a b:Value):Sem Value:=Instr.makeSlice 67 a b
theorem Qpj (a b:Value):Instr.makeSlice 67 a b=mkI a b:=rfl
def Qcv (n:Nat)(w:World):World:=w.alloc (.cells (madeCells #[.int .i64 0] (n*1)) 3)
theorem Qud (n:Nat)(hn:n<=1000000)(w:World):(mkI (.int .i64 (n:Int)) (.int .i64 (n:Int))).run Tryz.prog w=.ok (.slice (some ⟨w.1.size,0,none⟩) n n) (Qcv n w):=by
 obtain⟨i,hi,f,d,m⟩:=info_parts TN.info;have h:=run_makeSlice (P:=Tryz.prog) w 67 3 i _ TN.sl hi f .i64 .i64 n n (by omega) (by omega) (by rw[d,Int.toNat_natCast];omega) (by rw[m];omega) (by omega);rw[d] at h;exact h
theorem Qpd (n:Nat)(hn:n<=1000000)(w:World):Qz (Qcv n w) w.1.size n n (List.replicate n 0):=by
 have hm:(madeCells #[.int .i64 0] (n*1)).toList=(List.replicate n (0:Int)).map cv:=Qzp n;have d:=congrArg List.length hm;rw[Array.length_toList,List.length_map,List.length_replicate] at d;refine⟨by rw[List.length_map,List.length_replicate,Nat.mul_one],.inr ⟨w.1.size,n,_,rfl,Nat.zero_le _,heap_alloc_new w _,Nat.le_refl _,by unfold maxLen;omega,by rw[d,Nat.mul_one],?_⟩⟩;rw[hm,List.take_of_length_le (by rw[List.length_map,List.length_replicate,Nat.mul_one];exact Nat.le_refl _)]
theorem Qi3 (n base:Nat)(w:World)(h:base<=w.1.size):Below base w (Qcv n w):=(Below.refl _ _).alloc h _
theorem Qal (n:Nat)(w:World):(Qcv n w).1.size=w.1.size+1:=by simp[Qcv]
section
attribute [local go_sem ↓] Qpj
end
def Ct.Qm (C:Ct)(m:Int):Nat->List UInt8
 |0=>[]
 |k+1=>C.Qm m k++Zw (C.get (m+(k:Int))) 2
theorem Ct.Zj (C:Ct)(m:Int)(k:Nat):(C.Qm m k).length=2*k:=by
 induction k with
 |zero=>rfl
 |succ k ih=>show (C.Qm m k++Zw _ 2).length=_;rw[List.length_append,ih,Ye];omega
def Ct.body (C:Ct)(i:Int):List UInt8:=if 0<=i/\i<(Qi C.n:Int) then C.Qm (i*118) 118 else []
section
def Qn1 (l:List UInt8)(k:Nat):Int:=Zo ((l.drop (2*k)).take 2)
def Sj (n f i:Nat)(l:List UInt8)(k:Nat):Bool:=decide (Qn1 l k≠0/\(i*118+k<f\/n<=i*118+k))
def Rn (n i:Nat)(l:List UInt8)(C:Ct):Nat->Ct
 |0=>C
 |k+1=>if i*118+k<n then (Rn n i l C k).put (i*118+k) (Qn1 l k) else Rn n i l C k
def Qbb (n f i:Nat)(l:List UInt8):Prop:=l.length=236/\∀k,k<118->Sj n f i l k=false
def Sz (n:Nat)(d:List (List UInt8)):Nat->Ct
 |0=>Ct.zero n
 |i+1=>Rn n i (nth d i) (Sz n d i) 118
open Classical in
noncomputable def Oj (n:Int) (d:List (List UInt8)):Int:=if ¬(32<=n/\n<=2048) then 1 else if d.length≠Qi n.toNat\/¬∀i,i<Qi n.toNat->Qbb n.toNat (2+2*Qi n.toNat) i (nth d i) then 3 else 0
def Qcp (n:Nat)(d:List (List UInt8)):Ct:=(Sz n d (Qi n)).commit
theorem Qm2 (n i:Nat)(l:List UInt8)(C:Ct)(k:Nat):(Rn n i l C k).n=C.n:=by
 induction k with
 |zero=>rfl
 |succ k ih=>unfold Rn;split;rw[Ct.Qc,ih];exact ih
theorem Qe3 (n:Nat)(d:List (List UInt8))(i:Nat):(Sz n d i).n=n:=by
 induction i with
 |zero=>exact Ct.Qg n
 |succ i ih=>exact (Qm2 _ _ _ _ _).trans ih
end
theorem Qnr (C:Ct)(m:Int)(n k:Nat)(h:k<n):((C.Qm m n).drop (2*k)).take 2=Zw (C.get (m+(k:Int))) 2:=by
 induction n with
 |zero=>omega
 |succ n ih=>
  show ((C.Qm m n++Zw (C.get (m+(n:Int))) 2).drop (2*k)).take 2=_;by_cases d:k<n
  ·rw[List.drop_append_of_le_length (by rw[C.Zj];omega),List.take_append_of_le_length (by rw[List.length_drop,C.Zj];omega)];exact ih d
  ·obtain rfl:k=n:=by omega
   rw[List.drop_append,List.drop_eq_nil_of_le (by rw[C.Zj];omega),C.Zj,Nat.sub_self,List.nil_append,List.drop_zero,List.take_of_length_le (by rw[Ye];omega)]
theorem Ct.Qxt {C:Ct}(h:C.ok){i k:Nat}(hi:i<Qi C.n)(hk:k<118):Qn1 (C.body (i:Int)) k=C.get ((i:Int)*118+(k:Int)):=by
 have d:C.body (i:Int)=C.Qm ((i:Int)*118) 118:=by unfold Ct.body;rw[if_pos ⟨by omega,by omega⟩]
 unfold Qn1;rw[d,Qnr C _ 118 k hk];have h1:=C.Q5 h ((i:Int)*118+(k:Int));exact Qbu _ 2 h1.1 (by have:=h1.2;simp;omega)
theorem Ct.Xg {C:Ct}{i:Nat}(hi:i<Qi C.n):(C.body (i:Int)).length=236:=by
 unfold Ct.body;rw[if_pos ⟨by omega,by omega⟩,C.Zj]
theorem Vx (C:Ct)(k:Nat)(x:Int)(a:Nat)(d:a<C.n):nm (C.put k x).now a=if a=k then x else nm C.now a:=by
 show nm (C.now.set k x) a=_;by_cases h:a=k
 ·subst h;rw[if_pos rfl,Gj _ _ _ d]
 ·rw[if_neg h,Ui _ _ _ _ (λe=>h e.symm)]
theorem Ql0 (i:Nat)(l:List UInt8)(C:Ct)(k a:Nat)(f:a<C.n):nm (Rn C.n i l C k).now a=if i*118<=a/\a<i*118+k then Qn1 l (a-i*118) else nm C.now a:=by
 induction k with
 |zero=>rw[if_neg (by omega)];rfl
 |succ k ih=>
  unfold Rn;by_cases d:i*118+k<C.n
  ·rw[if_pos d,Vx _ _ _ _ (by rw[Qm2];exact f),ih];by_cases e:a=i*118+k
   ·rw[if_pos e,if_pos (by omega),show a-i*118=k by omega]
   ·rw[if_neg e];by_cases h2:i*118<=a/\a<i*118+k
    ·rw[if_pos h2,if_pos (by omega)]
    ·rw[if_neg h2,if_neg (by omega)]
  ·rw[if_neg d,ih];by_cases h2:i*118<=a/\a<i*118+k
   ·rw[if_pos h2,if_pos (by omega)]
   ·rw[if_neg h2,if_neg (by omega)]
theorem Qga (n:Nat)(d:List (List UInt8))(i a:Nat)(f:a<n):nm (Sz n d i).now a=if a<i*118 then Qn1 (nth d (a / 118)) (a % 118) else 0:=by
 induction i with
 |zero=>
  rw[if_neg (by omega)];show nm (List.replicate n 0) a=0;unfold nm;simp[f]
 |succ i ih=>
  have h:=Ql0 i (nth d i) (Sz n d i) 118 a (by rw[Qe3];exact f);rw[Qe3,ih] at h;refine (show nm (Sz n d (i+1)).now a=_ from h).trans ?_;by_cases h1:i*118<=a/\a<i*118+118
  ·rw[if_pos h1,if_pos (by omega),show a / 118=i by omega,show a % 118=a-i*118 by omega]
  ·rw[if_neg h1];by_cases h2:a<i*118
   ·rw[if_pos h2,if_pos (by omega)]
   ·rw[if_neg h2,if_neg (by omega)]
def Ct.res (C:Ct):Prop:=∀a,a<C.n->a<C.first->nm C.now a=0
def Ct.bodies (C:Ct):List (List UInt8):=(List.range (Qi C.n)).map λ(i:Nat)=>C.body (i:Int)
theorem Ct.Qkx (C:Ct){i:Nat}(h:i<Qi C.n):nth C.bodies i=C.body (i:Int):=by
 unfold nth Ct.bodies;rw[List.getD_eq_getElem?_getD,List.getElem?_map,List.getElem?_range h];rfl
theorem Ct.Quk {C:Ct}(h:C.ok)(hr:C.res){i:Nat}(hi:i<Qi C.n):Qbb C.n (2+2*Qi C.n) i (nth C.bodies i):=by
 rw[C.Qkx hi];refine⟨Ct.Xg hi,λk d=>?_⟩;unfold Sj;rw[Ct.Qxt h hi d];refine decide_eq_false ?_;rintro⟨h1,h2⟩;refine h1 ?_;unfold Ct.get;split
 ·rename_i f;have e:((i:Int)*118+(k:Int)).toNat=i*118+k:=by omega
  rw[e];rcases h2 with h2|h2
  ·exact hr _ (by omega) h2
  ·omega
 ·rfl
theorem Ct.Qq2 {C:Ct}(h:C.ok)(hr:C.res):Oj (C.n:Int) C.bodies=0/\Qcp C.n C.bodies=C.commit:=by
 have z:C.bodies.length=Qi C.n:=by unfold Ct.bodies;rw[List.length_map,List.length_range]
 constructor
 ·unfold Oj;rw[Int.toNat_natCast,if_neg (λe=>e (by have:=h.1;omega)),if_neg];rintro (e|e)
  ·exact e z
  ·exact e λi hi=>Ct.Quk h hr hi
 ·have p:(Sz C.n C.bodies (Qi C.n)).now=C.now:=by
   have h1:(Sz C.n C.bodies (Qi C.n)).now.length=C.now.length:=Qe3 _ _ _;refine List.ext_getElem h1 λa q f=>?_
   have y:a<C.n:=f;have d:=Qga C.n C.bodies (Qi C.n) a y;have m:a / 118<Qi C.n:=by unfold Qi;omega
   rw[if_pos (by unfold Qi;omega),C.Qkx m,Ct.Qxt h m (Nat.mod_lt _ (by omega))] at d;have u:((a / 118:Nat):Int)*118+((a % 118:Nat):Int)=(a:Int):=by omega
   rw[u] at d;unfold Ct.get at d;rw[if_pos ⟨by omega,by omega⟩,Int.toNat_natCast] at d;unfold nm at d;simpa [q,f] using d
  unfold Qcp Ct.commit;simp only[p]
theorem Ct.Z4 {C D:Ct}(h:D.n=C.n):D.first=C.first:=by unfold Ct.first;rw[h]
theorem Ct.J3 {C:Ct}(h:C.res){k:Nat}(x:Int)(hk:C.first<=k):(C.put k x).res:=λa d f=>by
 rw[C.Qc] at d;rw[Ct.Z4 (C.Qc k x)] at f;rw[Vx C k x a d,if_neg (by omega)];exact h a d f
theorem Ct.Zy {C:Ct}(h:C.res){a:Int}(hg:¬C.get a=0):0<=a/\a<(C.n:Int)/\C.first<=a.toNat:=by
 obtain⟨h1,h2,f⟩:=Ct.Yn hg;refine⟨h1,h2,?_⟩;rcases Nat.lt_or_ge a.toNat C.first with d|d
 ·exact absurd (f.trans (h a.toNat (by omega) d)) hg
 ·exact d
theorem Ct.Zm {C:Ct}{k:Nat}(h:C.pick=some k):k<C.n/\C.first<=k/\nm C.now k=0/\nm C.done k=0/\∀j,j<k->C.may j=false:=by
 unfold Ct.pick at h;rw[List.find?_range_eq_some] at h;obtain⟨h1,h2,d⟩:=h;unfold Ct.may Ct.Z7 at h1;rw[Bool.and_eq_true,decide_eq_true_iff,decide_eq_true_iff] at h1;exact⟨List.mem_range.1 h2,h1.1,h1.2.1,h1.2.2,λj f=>by have:=d j f;simpa using this⟩
theorem Ct.Xn {C:Ct}(h:C.pick=none):∀j,j<C.n->C.may j=false:=λj d=>by
 unfold Ct.pick at h;rw[List.find?_eq_none] at h;have:=h j (List.mem_range.2 d);simpa using this
theorem Ct.Z8 {C:Ct}(h:C.pick=none):C.free=0:=by
 unfold Ct.free Ct.Q8;rw[List.countP_eq_zero];intro j d;rw[Ct.Xn h j (List.mem_range.1 d)];simp
theorem Ct.Ji (C:Ct):C.alloc.n=C.n:=by unfold Ct.alloc;split;exact C.Qc _ _;rfl
theorem Ct.Zdw (C:Ct)(a:Int):(C.ref a).n=C.n:=by unfold Ct.ref;split;exact C.Qc _ _;rfl
theorem Ct.Qni (C:Ct)(a:Int):(C.Zf a).n=C.n:=by unfold Ct.Zf;split;rfl;exact C.Qc _ _
theorem Ct.Xf {C:Ct}(h:C.ok):C.alloc.ok:=by unfold Ct.alloc;split;exact Ct.Xp h _ _ (by omega) (by omega);exact h
theorem Ct.J9 {C:Ct}(h:C.res):C.alloc.res:=by
 unfold Ct.alloc;split
 ·rename_i k d;exact Ct.J3 h _ (Ct.Zm d).2.1
 ·exact h
theorem Ct.Zc8 {C:Ct}(h:C.res)(a:Int):(C.ref a).res:=by
 unfold Ct.ref;split
 ·rename_i d;have f:¬C.get a=0:=λe=>by unfold Ct.Xc at d;rw[if_pos e] at d;omega
  exact Ct.J3 h _ (Ct.Zy h f).2.2
 ·exact h
theorem Ct.Qxf {C:Ct}(h:C.res)(a:Int):(C.Zf a).res:=by
 unfold Ct.Zf;split
 ·exact h
 ·rename_i d;exact Ct.J3 h _ (Ct.Zy h d).2.2
theorem Ct.Zc7 {C:Ct}(h:C.ok)(a:Int):(C.ref a).ok:=by
 unfold Ct.ref;split
 ·rename_i d;have f:=C.Q5 h a;refine Ct.Xp h _ _ (by omega) ?_;unfold Ct.Xc at d;split at d
  ·omega
  ·split at d<;>omega
 ·exact h
theorem Ct.Qxe {C:Ct}(h:C.ok)(a:Int):(C.Zf a).ok:=by
 unfold Ct.Zf;split
 ·exact h
 ·have d:=C.Q5 h a;exact Ct.Xp h _ _ (by omega) (by omega)
theorem Ct.Jp (n:Nat):(Ct.zero n).res:=λa d _=>by
 rw[Ct.Qg] at d;show nm (List.replicate n 0) a=0;unfold nm;simp[d]
theorem Ct.Ju (C:Ct)(j:Nat):C.may j=decide (C.first<=j/\nm C.now j=0/\nm C.done j=0):=by
 unfold Ct.may Ct.Z7;rw[Bool.eq_iff_iff];simp
def Jg (w:World)(p o:Nat)(S:Nat->Prop)(C:Ct):Prop:=∃(a f b m:Nat) (t:TypeId) (d:Array Value),w.1[p]?=some (.cells d t (0,0))/\(d[o]?=some (.slice (some ⟨a,0,none⟩) C.n f)/\d[o+1]?=some (.slice (some ⟨b,0,none⟩) C.n m)/\d[o+2]?=some (.int .i64 (Qi C.n:Int))/\d[o+3]?=some (.int .i64 (C.first:Int)))/\Qz w a C.n f C.now/\Qz w b C.n m C.done/\(a≠b/\p≠a/\p≠b)/\(S a/\S b)/\C.ok
theorem Fa {w:World}{p k:Nat}{d:Array Value}{t:TypeId}{v:Value}(h:w.1[p]?=some (.cells d t (0,0)))(f:d[k]?=some v):w.cell? ⟨p,k,none⟩=some v:=by rw[cell_of_row _ _ _ _ _ _ h];exact f
theorem Jg.ok {w:World}{p o:Nat}{S:Nat->Prop}{C:Ct}(h:Jg w p o S C):C.ok:=by
 obtain⟨_,_,_,_,_,_,_,_,_,_,_,_,h⟩:=h;exact h
theorem Jg.lt {w:World}{p o:Nat}{S:Nat->Prop}{C:Ct}(h:Jg w p o S C):p<w.1.size:=by
 obtain⟨_,_,_,_,_,_,h,_⟩:=h;exact (Array.getElem?_eq_some_iff.1 h).1
theorem Jg.keep {w w':World}{p o:Nat}{S:Nat->Prop}{C:Ct}(h:Jg w p o S C)(hp:w'.1[p]?=w.1[p]?)(hk:∀k,k<w.1.size->S k->w'.1[k]?=w.1[k]?):Jg w' p o S C:=by
 obtain⟨a,q,b,u,t,d,h1,A,h2,m,y,f,z⟩:=h;exact⟨a,q,b,u,t,d,hp.trans h1,A,h2.keep (hk a h2.lt f.1),m.keep (hk b m.lt f.2),y,f,z⟩
theorem Jg.mono {w:World}{p o:Nat}{S S':Nat->Prop}{C:Ct}(h:Jg w p o S C)(hs:∀k,S k->S' k):Jg w p o S' C:=by
 obtain⟨a,m,b,q,t,d,h1,A,h2,u,y,f,z⟩:=h;exact⟨a,m,b,q,t,d,h1,A,h2,u,y,⟨hs _ f.1,hs _ f.2⟩,z⟩
theorem Jg.below {w w':World}{p o:Nat}{S:Nat->Prop}{C:Ct}(h:Jg w p o S C)(hb:Below w.1.size w w'):Jg w' p o S C:=h.keep (hb.block p h.lt) λk d _=>hb.block k d
theorem Jg.shrink {w:World}{p o:Nat}{S:Nat->Prop}{C:Ct}(h:Jg w p o S C):Jg w p o (λk=>S k/\k<w.1.size) C:=by
 obtain⟨a,q,b,u,t,d,h1,A,h2,f,y,m,z⟩:=h;exact⟨a,q,b,u,t,d,h1,A,h2,f,y,⟨⟨m.1,h2.lt⟩,⟨m.2,f.lt⟩⟩,z⟩
theorem Jg.around {w w':World}{p o p' o':Nat}{S:Nat->Prop}{C:Ct}{cur cur':Array Value}{t t':TypeId}(h:Jg w p o S C)(hp:w.1[p]?=some (.cells cur t (0,0)))(hp':w'.1[p']?=some (.cells cur' t' (0,0)))
  (hc:∀j,j<4->cur'[o'+j]?=cur[o+j]?) (hne:∀k,S k->p'≠k) (hk:∀k,k<w.1.size->S k->w'.1[k]?=w.1[k]?):Jg w' p' o' S C:=by
 obtain⟨a,u,b,y,t,m,h1,f,h2,q,z,d,A⟩:=h;rw[hp] at h1;injection h1 with h1;injection h1 with h1 _ _;subst h1;exact⟨a,u,b,y,t',cur',hp',⟨(hc 0 (by omega)).trans f.1,(hc 1 (by omega)).trans f.2.1,(hc 2 (by omega)).trans f.2.2.1,(hc 3 (by omega)).trans f.2.2.2⟩,h2.keep (hk a h2.lt d.1),q.keep (hk b q.lt d.2),⟨z.1,hne a d.1,hne b d.2⟩,d,A⟩
theorem Jg.open_ {w:World}{p o:Nat}{S:Nat->Prop}{C:Ct}(H:Jg w p o S C):∃g d b f:Nat,w.cell? ⟨p,o,none⟩=some (.slice (some ⟨g,0,none⟩) C.n d)/\w.cell? ⟨p,o+1,none⟩=some (.slice (some ⟨b,0,none⟩) C.n f)/\w.cell? ⟨p,o+2,none⟩=some (.int .i64 (Qi C.n:Int))/\w.cell? ⟨p,o+3,none⟩=some (.int .i64 (C.first:Int))/\
  (C.n<=d/\d<=9223372036854775807)/\(C.n<=f/\f<=9223372036854775807)/\(∀k,k<C.n->w.cell? ⟨g,k,none⟩=some (.int .i64 (nm C.now k))/\w.frozen? ⟨g,k,none⟩=false)/\(∀k,k<C.n->w.cell? ⟨b,k,none⟩=some (.int .i64 (nm C.done k)))/\
  (∀(k:Nat) (x:Int),k<C.n->0<=x->x<=65535->Jg (w.setCell ⟨g,k,none⟩ (.int .i64 x)) p o S (C.put k x)/\Turn S w (w.setCell ⟨g,k,none⟩ (.int .i64 x))/\(w.setCell ⟨g,k,none⟩ (.int .i64 x)).cell? ⟨p,o,none⟩=some (.slice (some ⟨g,0,none⟩) C.n d)/\(w.setCell ⟨g,k,none⟩ (.int .i64 x)).cell? ⟨g,k,none⟩=some (.int .i64 x)):=by
 obtain⟨g,d,b,f,t,q,h1,⟨B,J,K,M⟩,h2,u,y,D,O⟩:=H;have G:=h2.cap;have I:=u.cap;unfold maxLen at G I;refine⟨g,d,b,f,Fa h1 B,Fa h1 J,Fa h1 K,Fa h1 M,⟨G.1,by omega⟩,⟨I.1,by omega⟩,λk m=>h2.at_ m,λk m=>(u.at_ m).1,λk x m z A=>?_⟩;have e:∀j,j≠g->(w.setCell ⟨g,k,none⟩ (.int .i64 x)).1[j]?=w.1[j]?:=λj R=>Below.heap_setCell _ _ _ _ (by show j≠g;exact R)
 have F:=(e p y.2.1).trans h1;have E:=h2.Xe k x;have Q:(C.put k x).first=C.first:=by unfold Ct.first;rw[C.Qc]
 refine⟨⟨g,d,b,f,t,q,F,?_,?_,?_,y,D,C.Xp O k x z A⟩,Gi (a:=⟨g,k,none⟩) _ D.1,Fa F B,?_⟩
 ·rw[C.Qc,Q];exact⟨B,J,K,M⟩
 ·rw[C.Qc];exact E
 ·rw[C.Qc];exact u.keep (e b (Ne.symm y.1))
 ·have:=(E.at_ m).1;rw[Gj _ _ _ (by rw[h2.len];exact m)] at this;exact this
theorem Rh {w:World}{p o:Nat}{S:Nat->Prop}{C:Ct}(H:Jg w p o S C)(a x:Int)(y:C.get a=x) :
  Calls Tryz.prog 85 #[.pointer (some ⟨p,o,none⟩),.int .i64 a] w λe w'=>e=.returned (.int .i64 x)/\w=w':=by
 obtain⟨g,E,b,D,c0,c1,c2,c3,I,J,f,m,u⟩:=H.open_;have q:=Lib.hid f;clear f m u c1 c2 c3;by_cases h0:0<=a
 ·obtain⟨k,rfl⟩:=Int.eq_ofNat_of_zero_le h0;by_cases B:k<C.n
  ·have d:=Lib.hid (show x=nm C.now k by rw[<-y];unfold Ct.get;rw[if_pos (by omega)];rfl);obtain⟨G,_⟩:=q.out k B;have z:¬(k:Int)<0:=by omega
   have A:¬(C.n:Int)<=(k:Int):=by omega
   have F:(k:Int)<(C.n:Int):=by omega
   go_enter Tryz.func85,Tryz.ntmps85
   go_wp2;go_ret;exact⟨by rw[d.out];rfl,rfl⟩
  ·have d:=Lib.hid (show x=0 by rw[<-y];unfold Ct.get;rw[if_neg (by omega)]);have z:¬(k:Int)<0:=by omega
   have A:(C.n:Int)<=(k:Int):=by omega
   go_enter Tryz.func85,Tryz.ntmps85
   go_wp2;go_ret;exact⟨by rw[d.out];rfl,rfl⟩
 ·have d:=Lib.hid (show x=0 by rw[<-y];unfold Ct.get;rw[if_neg (by omega)]);have z:a<0:=by omega
  go_enter Tryz.func85,Tryz.ntmps85
  go_wp2;go_ret;exact⟨by rw[d.out];rfl,rfl⟩
def Ct.counted (C:Ct)(a:Nat):Bool:=decide (C.first<=a/\a<C.n)
theorem Rf {w:World}{p o:Nat}{S:Nat->Prop}{C:Ct}(H:Jg w p o S C)(a:Nat)(r:Bool)(B:C.counted a=r) :
  Calls Tryz.prog 192 #[.pointer (some ⟨p,o,none⟩),.int .i64 (a:Int)] w λe w'=>e=.returned (.bool r)/\w=w':=by
 obtain⟨g,F,b,E,c0,c1,c2,c3,G,I,u,d,y⟩:=H.open_;clear u d y c1 c2;obtain⟨f,z⟩:∃f,C.first=f:=⟨_,rfl⟩
 have m:=Lib.hid (show r=decide (f<=a/\a<C.n) by rw[<-B,<-z];rfl);rw[z] at c3;clear z B;by_cases h1:f<=a
 ·by_cases h2:a<C.n
  ·have q:=Lib.hid (show r=true by rw[m.out];exact decide_eq_true ⟨h1,h2⟩);have A:(f:Int)<=(a:Int):=by omega
   have D:(a:Int)<(C.n:Int):=by omega
   go_enter Tryz.func192,Tryz.ntmps192
   go_wp2;go_ret;exact⟨by rw[q.out];rfl,rfl⟩
  ·have q:=Lib.hid (show r=false by rw[m.out];exact decide_eq_false λh=>h2 h.2);have A:(f:Int)<=(a:Int):=by omega
   have D:¬(a:Int)<(C.n:Int):=by omega
   go_enter Tryz.func192,Tryz.ntmps192
   go_wp2;go_ret;exact⟨by rw[q.out];rfl,rfl⟩
 ·have q:=Lib.hid (show r=false by rw[m.out];exact decide_eq_false λh=>h1 h.1);have A:¬(f:Int)<=(a:Int):=by omega
  go_enter Tryz.func192,Tryz.ntmps192
  go_wp2;go_ret;exact⟨by rw[q.out];rfl,rfl⟩
theorem Qup {w:World}{p o:Nat}{S:Nat->Prop}{C:Ct}(H:Jg w p o S C)(k:Nat)(z:k<C.n)(r:Bool)(D:C.may k=r) :
  Calls Tryz.prog 111 #[.pointer (some ⟨p,o,none⟩),.int .i64 (k:Int)] w λe w'=>e=.returned (.bool r)/\w=w':=by
 obtain⟨g,I,b,G,c0,c1,c2,c3,O,Q,q,d,u⟩:=H.open_;obtain⟨F,_⟩:=q k z;have hd:=d k z;clear q d u c2 c3;obtain⟨x,A⟩:∃x,nm C.now k=x:=⟨_,rfl⟩;obtain⟨y,B⟩:∃y,nm C.done k=y:=⟨_,rfl⟩;have hm:=Lib.hid (show r=(decide (C.first<=k)&&decide (x=0/\y=0)) by rw[<-D,<-A,<-B];rfl);rw[A] at F;rw[B] at hd;clear A B D;have J:(k:Int)<(C.n:Int):=by omega
 have K:¬(C.n:Int)<=(k:Int):=by omega
 by_cases h1:C.first<=k
 ·have f:=Lib.hid (show C.counted k=true from decide_eq_true ⟨h1,z⟩);have hm:=Lib.hid (show r=decide (x=0/\y=0) by rw[hm.out,decide_eq_true h1,Bool.true_and]);clear h1;by_cases m:x=0
  ·have hm:=Lib.hid (show r=decide (y=0) by rw[hm.out];simp[m]);subst m;go_enter Tryz.func111,Tryz.ntmps111
   go_wp2_with fail
   refine (Rf H k true f.out).mono ?_;rintro e E ⟨rfl,rfl⟩;go_wp2;go_ret;exact⟨by rw[hm.out];first|rfl|(refine congrArg (λx=>Ending.returned (Value.bool x)) ?_;rw[Bool.eq_iff_iff];simp),rfl⟩
  ·have hm:=Lib.hid (show r=false by rw[hm.out];exact decide_eq_false λh=>m h.1);have M:(x==0)=false:=by simpa using m
   go_enter Tryz.func111,Tryz.ntmps111
   go_wp2_with fail
   refine (Rf H k true f.out).mono ?_;rintro e E ⟨rfl,rfl⟩;go_wp2;go_ret;exact⟨by rw[hm.out];rfl,rfl⟩
 ·have f:=Lib.hid (show C.counted k=false from decide_eq_false λh=>h1 h.1);have hm:=Lib.hid (show r=false by rw[hm.out,decide_eq_false h1,Bool.false_and]);clear h1;go_enter Tryz.func111,Tryz.ntmps111
  go_wp2_with fail
  refine (Rf H k false f.out).mono ?_;rintro e E ⟨rfl,rfl⟩;go_wp2;go_ret;exact⟨by rw[hm.out];rfl,rfl⟩
theorem Zeb (x:Int)(w:World) :
  Calls Tryz.prog 180 #[.slice none 0 0,.int .i64 x,.int .i64 2] w λe w'=>∃d f,e=.returned (.slice d 2 f)/\Sl w' d 2 f (Zw x 2)/\Below w.1.size w w':=by
 have m:=put_any none 0 0 [] x 2 w (Sm w) (by omega);rw[show Qgr [] x 2=Zw x 2 from rfl] at m;refine m.mono ?_;rintro e w' ⟨d,u,f,rfl,own,q⟩;have p:=own.len;rw[Ye] at p;subst p;exact⟨d,f,rfl,own.sl,q⟩
theorem Qky {w:World}{p o:Nat}{S:Nat->Prop}{C:Ct}(H:Jg w p o S C)(i:Int) :
  Calls Tryz.prog 134 #[.pointer (some ⟨p,o,none⟩),.int .i64 i] w λe w'=>∃A n c,e=.returned (.slice A n c)/\Sl w' A n c (C.body i)/\Below w.1.size w w'/\∀z,A=some z->w.1.size<=z.block:=by
 obtain⟨many,hm⟩:∃m,Qi C.n=m:=⟨_,rfl⟩;have a6:=H.ok.1;have a2:many<=1000:=by rw[<-hm];unfold Qi;omega
 obtain⟨g,cg,b,cb,c0,c1,c2,c3,k1,k2,I,y,J⟩:=H.open_;clear I y J c1 c0 c3 k1 k2;rw[hm] at c2;have W:=Lib.hid hm;clear hm;by_cases hi:0<=i/\i<(many:Int)
 ·have d:=Lib.hid (show C.body i=C.Qm (i*118) 118 by unfold Ct.body;rw[W.out,if_pos hi]);obtain⟨q,rfl⟩:=Int.eq_ofNat_of_zero_le hi.1;have e1:¬(q:Int)<0:=by omega
  have e2:¬(many:Int)<=(q:Int):=by omega
  have hq:q<many:=by omega
  have d1:decide ((q:Int)<0)=false:=by simp
  have d2:decide ((many:Int)<=(q:Int))=false:=by simp;omega
  have d3:decide (many<=q)=false:=by simp;omega
  go_enter Tryz.func134,Tryz.ntmps134
  go_wp2_with (first
   |(at_make;refine Qmi _ T22 rfl _ _ rfl _ _ 236 rfl rfl (by omega) ?_)
   |fail)
  intro w1 Qwk F;go_wp2_with fail
  go_loopw [5,6,18] (λb _ k wr=>∃(j:Nat) (M:Option Addr) (O:Nat),j<=118/\k=.int .i64 (j:Int)/\b=.slice M (2*j) O/\Own wr w.1.size 5 M (2*j) O (C.Qm ((q:Int)*118) j)/\Below w.1.size w wr) (λ_ _ k _=>118-(intOf k).toNat)
  case atStart=>exact⟨0,_,_,by omega,rfl,rfl,Qwk,F⟩
  case round=>
   clear Qwk F;obtain⟨j,M,O,hj,rfl,rfl,own,Q⟩:=hrel;by_cases a1:j<118
   ·have Hr:=H.below Q;have e3:(j:Int)<118:=by omega
    obtain⟨x,U⟩:∃x,C.get ((q:Int)*118+(j:Int))=x:=⟨_,rfl⟩;have u:=Lib.hid (show C.Qm ((q:Int)*118) (j+1)=C.Qm ((q:Int)*118) j++Zw x 2 by rw[<-U];rfl);have Z:=Lib.hid U;clear U c2;go_wp2_with fail
    refine (Rh Hr _ x Z.out).mono ?_;rintro e w3 ⟨rfl,rfl⟩;go_wp2_with fail
    refine (Zeb x wr).mono ?_;rintro e w4 ⟨X,c4,rfl,V,G⟩;have K:=own.below G;have E:=Q.trans (G.mono Q.size);go_wp2_with (at_builtin;refine Qhk _ T22 rfl _ _ rfl w.1.size M (2*j) O _ rfl K X 2 c4 _ rfl V (by omega) E.size ?_)
    intro Y c5 w5 f R;rw[<-u.out] at f;go_wp2;exact⟨⟨j+1,Y,c5,by omega,by go_num,rfl,f,E.trans R⟩,by simp[intOf];omega⟩
   ·have T:j=118:=by omega
    subst T;have D:=own.sl;have B:=λz e=>(own.block z e).1
    go_wp2;go_ret;rw[d.out];exact⟨_,_,_,rfl,D,Q,B⟩
 ·have d:=Lib.hid (show C.body i=[] by unfold Ct.body;rw[W.out,if_neg hi]);by_cases h0:i<0
  ·go_enter Tryz.func134,Tryz.ntmps134
   go_wp2;go_ret;rw[d.out];exact⟨_,_,_,rfl,Sm _,Below.refl _ _,λz e=>by cases e⟩
  ·have e2:(many:Int)<=i:=by omega
   have e1:¬i<0:=h0;go_enter Tryz.func134,Tryz.ntmps134
   go_wp2;go_ret;rw[d.out];exact⟨_,_,_,rfl,Sm _,Below.refl _ _,λz e=>by cases e⟩
theorem Qx3 {w:World}{p o:Nat}{S:Nat->Prop}{C:Ct}(H:Jg w p o S C)(a:Int) :
  Calls Tryz.prog 123 #[.pointer (some ⟨p,o,none⟩),.int .i64 a] w λe w'=>e=.returned (.int .i64 (C.Xc a))/\Jg w' p o S (C.ref a)/\Turn S w w':=by
 obtain⟨x,d⟩:∃x,C.get a=x:=⟨_,rfl⟩;have I:=C.Q5 H.ok a;rw[d] at I;by_cases h0:x=0
 ·have f:C.Xc a=1:=by unfold Ct.Xc;rw[d,if_pos h0]
  have y:C.ref a=C:=by unfold Ct.ref;rw[f,if_neg (by decide)]
  rw[f,y];subst h0;go_enter Tryz.func123,Tryz.ntmps123
  go_wp2_with fail
  refine (Rh H a 0 d).mono ?_;rintro e D ⟨rfl,rfl⟩;go_wp2;go_ret;exact⟨rfl,H,Turn.refl _ _⟩
 ·by_cases h1:x=65535
  ·have f:C.Xc a=7:=by unfold Ct.Xc;rw[d,if_neg h0,if_pos h1]
   have y:C.ref a=C:=by unfold Ct.ref;rw[f,if_neg (by decide)]
   rw[f,y];subst h1;go_enter Tryz.func123,Tryz.ntmps123
   go_wp2_with fail
   refine (Rh H a 65535 d).mono ?_;rintro e D ⟨rfl,rfl⟩;go_wp2;go_ret;exact⟨rfl,H,Turn.refl _ _⟩
  ·have f:C.Xc a=0:=by unfold Ct.Xc;rw[d,if_neg h0,if_neg h1]
   have y:C.ref a=C.put a.toNat (x+1):=by unfold Ct.ref;rw[f,if_pos rfl,d]
   have B:=Lib.hid f;have A:=Lib.hid y;obtain⟨M,U,z⟩:=Ct.Yn (C:=C) (a:=a) (by rw[d];exact h0);obtain⟨k,rfl⟩:=Int.eq_ofNat_of_zero_le M;rw[Int.toNat_natCast] at z;rw[d] at z;obtain⟨g,Q,b,O,c0,c1,c2,c3,V,W,m,u,q⟩:=H.open_;obtain⟨J,K⟩:=m k (by omega);rw[<-z] at J;obtain⟨E,G,R,T⟩:=q k (x+1) (by omega) (by omega) (by omega);have F:=Lib.hid d;have j1:¬(C.n:Int)<=(k:Int):=by omega
   clear f y z m u q;go_enter Tryz.func123,Tryz.ntmps123
   go_wp2_with fail
   refine (Rh H k x F.out).mono ?_;rintro e D ⟨rfl,rfl⟩;go_wp2;go_ret;rw[B.out,A.out];exact⟨rfl,E,G⟩
theorem Qrd {w:World}{p o:Nat}{S:Nat->Prop}{C:Ct}(H:Jg w p o S C)(a:Int) :
  Calls Tryz.prog 219 #[.pointer (some ⟨p,o,none⟩),.int .i64 a] w λe w'=>e=.returned (.tuple #[.int .i64 (C.Oa a),.int .i64 (C.Jc a)])/\Jg w' p o S (C.Zf a)/\Turn S w w':=by
 obtain⟨x,u⟩:∃x,C.get a=x:=⟨_,rfl⟩;have E:=C.Q5 H.ok a;rw[u] at E;by_cases h0:x=0
 ·have y:C.Jc a=1/\C.Oa a=0/\C.Zf a=C:=by unfold Ct.Jc Ct.Oa Ct.Zf;rw[u,if_pos h0,if_pos h0,if_pos h0];exact⟨rfl,rfl,rfl⟩
  rw[y.1,y.2.1,y.2.2];subst h0;go_enter Tryz.func219,Tryz.ntmps219
  go_wp2_with fail
  refine (Rh H a 0 u).mono ?_;rintro e J ⟨rfl,rfl⟩;go_wp2;go_ret2;exact⟨rfl,H,Turn.refl _ _⟩
 ·have y:C.Jc a=0/\C.Oa a=x-1/\C.Zf a=C.put a.toNat (x-1):=by unfold Ct.Jc Ct.Oa Ct.Zf;rw[u,if_neg h0,if_neg h0,if_neg h0];exact⟨rfl,rfl,rfl⟩
  have m:=Lib.hid y;obtain⟨I,R,z⟩:=Ct.Yn (C:=C) (a:=a) (by rw[u];exact h0);obtain⟨k,rfl⟩:=Int.eq_ofNat_of_zero_le I;rw[Int.toNat_natCast] at z;rw[u] at z;obtain⟨g,M,b,K,c0,c1,c2,c3,T,U,d,q,f⟩:=H.open_;obtain⟨F,G⟩:=d k (by omega);rw[<-z] at F;obtain⟨A,D,O,Q⟩:=f k (x-1) (by omega) (by omega) (by omega);have B:=Lib.hid u;have j1:¬(C.n:Int)<=(k:Int):=by omega
  clear y z d q f;go_enter Tryz.func219,Tryz.ntmps219
  go_wp2_with fail
  refine (Rh H k x B.out).mono ?_;rintro e J ⟨rfl,rfl⟩;go_wp2;go_ret2;rw[m.out.1,m.out.2.1,m.out.2.2];exact⟨rfl,A,D⟩
theorem Qq7 {w:World}{p o:Nat}{S:Nat->Prop}{C:Ct}(H:Jg w p o S C)(a:Int)(r:Bool)(B:C.fresh a=r) :
  Calls Tryz.prog 252 #[.pointer (some ⟨p,o,none⟩),.int .i64 a] w λe w'=>e=.returned (.bool r)/\w=w':=by
 subst B;obtain⟨x,f⟩:∃x,C.get a=x:=⟨_,rfl⟩;by_cases h0:x=0
 ·have m:C.fresh a=false:=by unfold Ct.fresh;rw[f,if_pos h0]
  rw[m];subst h0;go_enter Tryz.func252,Tryz.ntmps252
  go_wp2_with fail
  refine (Rh H a 0 f).mono ?_;rintro e F ⟨rfl,rfl⟩;go_wp2;go_ret;exact⟨rfl,rfl⟩
 ·have m:=Lib.hid (show C.fresh a=decide (nm C.done a.toNat=0) by unfold Ct.fresh;rw[f,if_neg h0]);obtain⟨D,J,E⟩:=Ct.Yn (C:=C) (a:=a) (by rw[f];exact h0);obtain⟨k,rfl⟩:=Int.eq_ofNat_of_zero_le D;rw[Int.toNat_natCast] at m;obtain⟨g,I,b,G,c0,c1,c2,c3,K,M,q,d,u⟩:=H.open_;have hd:=d k (by omega);obtain⟨y,z⟩:∃y,nm C.done k=y:=⟨_,rfl⟩;rw[z] at hd m;have A:=Lib.hid f;have j1:¬(C.n:Int)<=(k:Int):=by omega
  clear E q d u z f;go_enter Tryz.func252,Tryz.ntmps252
  go_wp2_with fail
  refine (Rh H k x A.out).mono ?_;rintro e F ⟨rfl,rfl⟩;go_wp2;go_ret;exact⟨by rw[m.out];first|rfl|(refine congrArg (λx=>Ending.returned (Value.bool x)) ?_;rw[Bool.eq_iff_iff];simp[h0]),rfl⟩
theorem Qh7 {w:World}{p o:Nat}{S:Nat->Prop}{C:Ct}(H:Jg w p o S C) :
  Calls Tryz.prog 121 #[.pointer (some ⟨p,o,none⟩)] w λe w'=>e=.returned (.tuple #[.int .i64 C.Js,.int .i64 C.Jr])/\Jg w' p o S C.alloc/\Turn S w w':=by
 have O:=H.ok.1;obtain⟨g,T,b,R,c0,c1,c2,c3,Z,Q,q,z,u⟩:=H.open_;have B:=Lib.hid u;have A:=Lib.hid q;clear u q z c1 c2 c3 Q;go_enter Tryz.func121,Tryz.ntmps121
 go_wp2_with fail
 go_loop [4,10] (λ_ i=>∃k:Nat,k<=C.n/\i=.int .i64 (k:Int)/\∀j,j<k->C.may j=false) (λ_ i=>C.n-(intOf i).toNat)
 case atStart=>exact⟨0,Nat.zero_le _,rfl,λj F=>absurd F (Nat.not_lt_zero _)⟩
 case round=>
  obtain⟨k,Y,rfl,d⟩:=hrel;by_cases f:k<C.n
  ·obtain⟨X,M⟩:=A.out k f;obtain⟨I,J,U,V⟩:=B.out k 1 f (by omega) (by omega);obtain⟨r,G⟩:∃r,C.may k=r:=⟨_,rfl⟩;have Hr:=Lib.hid G;have m:=Lib.hid d;have K:(k:Int)<(C.n:Int):=by omega
   have W:(0:Int)<=(k:Int):=by omega
   clear G d;go_wp2_with fail
   refine (Qup H k f r Hr.out).mono ?_;rintro e w1 ⟨rfl,rfl⟩
   cases r with
   |true=>
    have y:=Lib.hid (Ct.Zi (C:=C) (k:=k) (Ct.Qwo f Hr.out m.out));go_wp2;go_ret2;rw[y.out.1,y.out.2.1,y.out.2.2];exact⟨rfl,I,J⟩
   |false=>
    go_wp2;refine⟨⟨k+1,by omega,by go_num,λj F=>?_⟩,by simp[intOf];omega⟩;by_cases E:j=k
    ·rw[E];exact Hr.out
    ·exact m.out j (by omega)
  ·have D:k=C.n:=by omega
   have K:¬(k:Int)<(C.n:Int):=by omega
   have y:=Lib.hid (Ct.Qb1 (Ct.Qwn (C:=C) (by rw[<-D];exact d)));clear d D;go_wp2;go_ret2;rw[y.out.1,y.out.2.1,y.out.2.2];exact⟨rfl,H,Turn.refl _ _⟩
