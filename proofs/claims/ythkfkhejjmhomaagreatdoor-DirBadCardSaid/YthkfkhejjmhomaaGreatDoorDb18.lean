/- The reference's counts: New -/
import Derived.Test.YthkfkhejjmhomaaGreatDoorDb17
import Derived.Laws.CopyOwn
import Derived.Lib.SliceRun
namespace Go.Proofs.YthkfkhejjmhomaaGreatDoor
open Go Go.RowKit Go.Proofs
set_option maxHeartbeats 4000000
set_option maxRecDepth 10000
def mkI (a b:Value):Sem Value:=Instr.makeSlice 67 a b
theorem qj0 (a b:Value):Instr.makeSlice 67 a b=mkI a b:=rfl
def Ub (n:Nat)(w:World):World:=w.alloc (.cells (madeCells #[.int .i64 0] (n*1)) 3)
theorem qnx (n:Nat)(hn:n<=1000000)(w:World):(mkI (.int .i64 (n:Int)) (.int .i64 (n:Int))).run Tryz.prog w=.ok (.slice (some ⟨w.1.size,0,none⟩) n n) (Ub n w):=by
 obtain⟨i,hi,e,d,f⟩:=info_parts TN.info;have h:=run_makeSlice (P:=Tryz.prog) w 67 3 i _ TN.sl hi e .i64 .i64 n n (by omega) (by omega) (by rw[d,Int.toNat_natCast];omega) (by rw[f];omega) (by omega);rw[d] at h;exact h
theorem qj1 (n:Nat)(hn:n<=1000000)(w:World):Jt (Ub n w) w.1.size n n (List.replicate n 0):=by
 have hm:(madeCells #[.int .i64 0] (n*1)).toList=(List.replicate n (0:Int)).map cv:=qsu n;have d:=congrArg List.length hm;rw[Array.length_toList,List.length_map,List.length_replicate] at d;refine⟨by rw[List.length_map,List.length_replicate,Nat.mul_one],.inr ⟨w.1.size,n,_,rfl,Nat.zero_le _,heap_alloc_new w _,Nat.le_refl _,by unfold maxLen;omega,by rw[d,Nat.mul_one],?_⟩⟩;rw[hm,List.take_of_length_le (by rw[List.length_map,List.length_replicate,Nat.mul_one];exact Nat.le_refl _)]
theorem qbl (n base:Nat)(w:World)(h:base<=w.1.size):Below base w (Ub n w):=(Below.refl _ _).alloc h _
theorem q34 (n:Nat)(w:World):(Ub n w).1.size=w.1.size+1:=by simp[Ub]
section
attribute [local go_sem ↓] qj0
end
def Ct.Zq (C:Ct)(m:Int):Nat->List UInt8
 |0=>[]
 |k+1=>C.Zq m k++Qy (C.get (m+(k:Int))) 2
theorem Ct.J5 (C:Ct)(m:Int)(k:Nat):(C.Zq m k).length=2*k:=by
 induction k with
 |zero=>rfl
 |succ k ih=>show (C.Zq m k++Qy _ 2).length=_;rw[List.length_append,ih,Xf];omega
def Ct.body (C:Ct)(i:Int):List UInt8:=if 0<=i/\i<(Qh C.n:Int) then C.Zq (i*118) 118 else []
section
def Fh (l:List UInt8)(k:Nat):Int:=Qw ((l.drop (2*k)).take 2)
def Yt (n f i:Nat)(l:List UInt8)(k:Nat):Bool:=decide (Fh l k≠0/\(i*118+k<f\/n<=i*118+k))
def Yh (n i:Nat)(l:List UInt8)(C:Ct):Nat->Ct
 |0=>C
 |k+1=>if i*118+k<n then (Yh n i l C k).put (i*118+k) (Fh l k) else Yh n i l C k
def q4b (n f i:Nat)(l:List UInt8):Prop:=l.length=236/\∀k,k<118->Yt n f i l k=false
def Yw (n:Nat)(d:List (List UInt8)):Nat->Ct
 |0=>Ct.zero n
 |i+1=>Yh n i (nth d i) (Yw n d i) 118
open Classical in
noncomputable def J9 (n:Int) (d:List (List UInt8)):Int:=if ¬(32<=n/\n<=2048) then 1 else if d.length≠Qh n.toNat\/¬∀i,i<Qh n.toNat->q4b n.toNat (2+2*Qh n.toNat) i (nth d i) then 3 else 0
def Vr (n:Nat)(d:List (List UInt8)):Ct:=(Yw n d (Qh n)).commit
theorem qh7 (n i:Nat)(l:List UInt8)(C:Ct)(k:Nat):(Yh n i l C k).n=C.n:=by
 induction k with
 |zero=>rfl
 |succ k ih=>unfold Yh;split;rw[Ct.Zh,ih];exact ih
theorem q9l (n:Nat)(d:List (List UInt8))(i:Nat):(Yw n d i).n=n:=by
 induction i with
 |zero=>exact Ct.Zd n
 |succ i ih=>exact (qh7 _ _ _ _ _).trans ih
end
theorem qh8 (C:Ct)(m:Int)(n k:Nat)(h:k<n):((C.Zq m n).drop (2*k)).take 2=Qy (C.get (m+(k:Int))) 2:=by
 induction n with
 |zero=>omega
 |succ n ih=>
  show ((C.Zq m n++Qy (C.get (m+(n:Int))) 2).drop (2*k)).take 2=_;by_cases d:k<n
  ·rw[List.drop_append_of_le_length (by rw[C.J5];omega),List.take_append_of_le_length (by rw[List.length_drop,C.J5];omega)];exact ih d
  ·obtain rfl:k=n:=by omega
   rw[List.drop_append,List.drop_eq_nil_of_le (by rw[C.J5];omega),C.J5,Nat.sub_self,List.nil_append,List.drop_zero,List.take_of_length_le (by rw[Xf];omega)]
theorem Ct.Rj {C:Ct}(h:C.ok){i k:Nat}(hi:i<Qh C.n)(hk:k<118):Fh (C.body (i:Int)) k=C.get ((i:Int)*118+(k:Int)):=by
 have d:C.body (i:Int)=C.Zq ((i:Int)*118) 118:=by unfold Ct.body;rw[if_pos ⟨by omega,by omega⟩]
 unfold Fh;rw[d,qh8 C _ 118 k hk];have h1:=C.Zv h ((i:Int)*118+(k:Int));exact q4v _ 2 h1.1 (by have:=h1.2;simp;omega)
theorem Ct.Uf {C:Ct}{i:Nat}(hi:i<Qh C.n):(C.body (i:Int)).length=236:=by
 unfold Ct.body;rw[if_pos ⟨by omega,by omega⟩,C.J5]
theorem q5r (C:Ct)(k:Nat)(x:Int)(a:Nat)(d:a<C.n):nm (C.put k x).now a=if a=k then x else nm C.now a:=by
 show nm (C.now.set k x) a=_;by_cases h:a=k
 ·subst h;rw[if_pos rfl,q5q _ _ _ d]
 ·rw[if_neg h,q4a _ _ _ _ (λe=>h e.symm)]
theorem qeu (i:Nat)(l:List UInt8)(C:Ct)(k a:Nat)(f:a<C.n):nm (Yh C.n i l C k).now a=if i*118<=a/\a<i*118+k then Fh l (a-i*118) else nm C.now a:=by
 induction k with
 |zero=>rw[if_neg (by omega)];rfl
 |succ k ih=>
  unfold Yh;by_cases d:i*118+k<C.n
  ·rw[if_pos d,q5r _ _ _ _ (by rw[qh7];exact f),ih];by_cases e:a=i*118+k
   ·rw[if_pos e,if_pos (by omega),show a-i*118=k by omega]
   ·rw[if_neg e];by_cases h2:i*118<=a/\a<i*118+k
    ·rw[if_pos h2,if_pos (by omega)]
    ·rw[if_neg h2,if_neg (by omega)]
  ·rw[if_neg d,ih];by_cases h2:i*118<=a/\a<i*118+k
   ·rw[if_pos h2,if_pos (by omega)]
   ·rw[if_neg h2,if_neg (by omega)]
theorem q9m (n:Nat)(d:List (List UInt8))(i a:Nat)(e:a<n):nm (Yw n d i).now a=if a<i*118 then Fh (nth d (a / 118)) (a % 118) else 0:=by
 induction i with
 |zero=>
  rw[if_neg (by omega)];show nm (List.replicate n 0) a=0;unfold nm;simp[e]
 |succ i ih=>
  have h:=qeu i (nth d i) (Yw n d i) 118 a (by rw[q9l];exact e);rw[q9l,ih] at h;refine (show nm (Yw n d (i+1)).now a=_ from h).trans ?_;by_cases h1:i*118<=a/\a<i*118+118
  ·rw[if_pos h1,if_pos (by omega),show a / 118=i by omega,show a % 118=a-i*118 by omega]
  ·rw[if_neg h1];by_cases h2:a<i*118
   ·rw[if_pos h2,if_pos (by omega)]
   ·rw[if_neg h2,if_neg (by omega)]
def Ct.res (C:Ct):Prop:=∀a,a<C.n->a<C.first->nm C.now a=0
def Ct.bodies (C:Ct):List (List UInt8):=(List.range (Qh C.n)).map λ(i:Nat)=>C.body (i:Int)
theorem Ct.Dz (C:Ct){i:Nat}(h:i<Qh C.n):nth C.bodies i=C.body (i:Int):=by
 unfold nth Ct.bodies;rw[List.getD_eq_getElem?_getD,List.getElem?_map,List.getElem?_range h];rfl
theorem Ct.Oh {C:Ct}(h:C.ok)(hr:C.res){i:Nat}(hi:i<Qh C.n):q4b C.n (2+2*Qh C.n) i (nth C.bodies i):=by
 rw[C.Dz hi];refine⟨Ct.Uf hi,λk d=>?_⟩;unfold Yt;rw[Ct.Rj h hi d];refine decide_eq_false ?_;rintro⟨h1,h2⟩;refine h1 ?_;unfold Ct.get;split
 ·rename_i f;have e:((i:Int)*118+(k:Int)).toNat=i*118+k:=by omega
  rw[e];rcases h2 with h2|h2
  ·exact hr _ (by omega) h2
  ·omega
 ·rfl
theorem Ct.Lc {C:Ct}(h:C.ok)(hr:C.res):J9 (C.n:Int) C.bodies=0/\Vr C.n C.bodies=C.commit:=by
 have B:C.bodies.length=Qh C.n:=by unfold Ct.bodies;rw[List.length_map,List.length_range]
 constructor
 ·unfold J9;rw[Int.toNat_natCast,if_neg (λe=>e (by have:=h.1;omega)),if_neg];rintro (e|e)
  ·exact e B
  ·exact e λi hi=>Ct.Oh h hr hi
 ·have p:(Yw C.n C.bodies (Qh C.n)).now=C.now:=by
   have h1:(Yw C.n C.bodies (Qh C.n)).now.length=C.now.length:=q9l _ _ _;refine List.ext_getElem h1 λa u f=>?_
   have A:a<C.n:=f;have d:=q9m C.n C.bodies (Qh C.n) a A;have m:a / 118<Qh C.n:=by unfold Qh;omega
   rw[if_pos (by unfold Qh;omega),C.Dz m,Ct.Rj h m (Nat.mod_lt _ (by omega))] at d;have y:((a / 118:Nat):Int)*118+((a % 118:Nat):Int)=(a:Int):=by omega
   rw[y] at d;unfold Ct.get at d;rw[if_pos ⟨by omega,by omega⟩,Int.toNat_natCast] at d;unfold nm at d;simpa [u,f] using d
  unfold Vr Ct.commit;simp only[p]
theorem Ct.Bv {C D:Ct}(h:D.n=C.n):D.first=C.first:=by unfold Ct.first;rw[h]
theorem Ct.Bc {C:Ct}(h:C.res){k:Nat}(x:Int)(hk:C.first<=k):(C.put k x).res:=λa d e=>by
 rw[C.Zh] at d;rw[Ct.Bv (C.Zh k x)] at e;rw[q5r C k x a d,if_neg (by omega)];exact h a d e
theorem Ct.Vk {C:Ct}(h:C.res){a:Int}(hg:¬C.get a=0):0<=a/\a<(C.n:Int)/\C.first<=a.toNat:=by
 obtain⟨h1,h2,e⟩:=Ct.Eo hg;refine⟨h1,h2,?_⟩;rcases Nat.lt_or_ge a.toNat C.first with d|d
 ·exact absurd (e.trans (h a.toNat (by omega) d)) hg
 ·exact d
theorem Ct.Yd {C:Ct}{k:Nat}(h:C.pick=some k):k<C.n/\C.first<=k/\nm C.now k=0/\nm C.done k=0/\∀j,j<k->C.may j=false:=by
 unfold Ct.pick at h;rw[List.find?_range_eq_some] at h;obtain⟨h1,h2,d⟩:=h;unfold Ct.may Ct.G6 at h1;rw[Bool.and_eq_true,decide_eq_true_iff,decide_eq_true_iff] at h1;exact⟨List.mem_range.1 h2,h1.1,h1.2.1,h1.2.2,λj e=>by have:=d j e;simpa using this⟩
theorem Ct.Sm {C:Ct}(h:C.pick=none):∀j,j<C.n->C.may j=false:=λj d=>by
 unfold Ct.pick at h;rw[List.find?_eq_none] at h;have:=h j (List.mem_range.2 d);simpa using this
theorem Ct.Wn {C:Ct}(h:C.pick=none):C.free=0:=by
 unfold Ct.free Ct.Xh;rw[List.countP_eq_zero];intro j d;rw[Ct.Sm h j (List.mem_range.1 d)];simp
theorem Ct.Ej (C:Ct):C.alloc.n=C.n:=by unfold Ct.alloc;split;exact C.Zh _ _;rfl
theorem Ct.Qat (C:Ct)(a:Int):(C.ref a).n=C.n:=by unfold Ct.ref;split;exact C.Zh _ _;rfl
theorem Ct.E8 (C:Ct)(a:Int):(C.Qq a).n=C.n:=by unfold Ct.Qq;split;rfl;exact C.Zh _ _
theorem Ct.Rf {C:Ct}(h:C.ok):C.alloc.ok:=by unfold Ct.alloc;split;exact Ct.Ci h _ _ (by omega) (by omega);exact h
theorem Ct.Oe {C:Ct}(h:C.res):C.alloc.res:=by
 unfold Ct.alloc;split
 ·rename_i k d;exact Ct.Bc h _ (Ct.Yd d).2.1
 ·exact h
theorem Ct.Qak {C:Ct}(h:C.res)(a:Int):(C.ref a).res:=by
 unfold Ct.ref;split
 ·rename_i d;have f:¬C.get a=0:=λe=>by unfold Ct.Y4 at d;rw[if_pos e] at d;omega
  exact Ct.Bc h _ (Ct.Vk h f).2.2
 ·exact h
theorem Ct.O7 {C:Ct}(h:C.res)(a:Int):(C.Qq a).res:=by
 unfold Ct.Qq;split
 ·exact h
 ·rename_i d;exact Ct.Bc h _ (Ct.Vk h d).2.2
theorem Ct.Qaj {C:Ct}(h:C.ok)(a:Int):(C.ref a).ok:=by
 unfold Ct.ref;split
 ·rename_i d;have e:=C.Zv h a;refine Ct.Ci h _ _ (by omega) ?_;unfold Ct.Y4 at d;split at d
  ·omega
  ·split at d<;>omega
 ·exact h
theorem Ct.O6 {C:Ct}(h:C.ok)(a:Int):(C.Qq a).ok:=by
 unfold Ct.Qq;split
 ·exact h
 ·have d:=C.Zv h a;exact Ct.Ci h _ _ (by omega) (by omega)
theorem Ct.Ic (n:Nat):(Ct.zero n).res:=λa d _=>by
 rw[Ct.Zd] at d;show nm (List.replicate n 0) a=0;unfold nm;simp[d]
theorem Ct.Lm (C:Ct)(j:Nat):C.may j=decide (C.first<=j/\nm C.now j=0/\nm C.done j=0):=by
 unfold Ct.may Ct.G6;rw[Bool.eq_iff_iff];simp
theorem Jt.whole {w:World}{g n c:Nat}{l:List Int}(h:Jt w g n c l):∃d:Array Value,w.1[g]?=some (.cells d 3 (0,0))/\d.size=c/\d.toList.take n=l.map cv/\n<=c/\c<=maxLen:=by
 rcases h.2 with⟨f,_⟩|⟨B,cap,d,f,D,y,h1,h2,m,p⟩
 ·injection f with e;cases e
 ·injection f with e A u;injection e with e;injection e with e;subst e;subst u;rw[Nat.mul_one] at m p;exact⟨d,y,m,p,h1,h2⟩
theorem Jt.of_whole {w:World}{g n c:Nat}{l:List Int}(cur:Array Value)(hg:w.1[g]?=some (.cells cur 3 (0,0)))(h3:cur.size=c)(h4:cur.toList.take n=l.map cv)(hl:l.length=n)(h1:n<=c)(h2:c<=maxLen):Jt w g n c l:=
 ⟨by rw[List.length_map,hl,Nat.mul_one],.inr ⟨g,c,cur,rfl,Nat.zero_le _,hg,h1,h2,by rw[h3,Nat.mul_one],by rw[Nat.mul_one];exact h4⟩⟩
theorem qh9 {w:World}{G:Array Oper}{o:Oper}{a:Act}{K:Act->World->Prop}{Q:Exit->Act->World->Prop}{E:Prop}(D:o.guard=none)(d s:Operand)
  (T:o.op=.call { callee:=.builtin .copy,args:=#[d,s],argTypes:=#[67,67] }) (g n c:Nat) (l:List Int) (U:Jt w g n c l) (hd:a.eval d=.slice (some ⟨g,0,none⟩) n c)
  (B c2:Nat) (u:List Int) (y:Jt w B n c2 u) (W:a.eval s=.slice (some ⟨B,0,none⟩) n c2)
  (J:∀A,Jt A g n c u->(∀k,k≠g->A.1[k]?=w.1[k]?)->(∀S:Nat->Prop,S g->Turn S w A)->K (a.put o.dst (goInt n)) A):if Region.wanted o (yielded G a.tmps)=true then Oper.wp Tryz.prog o a w K Q else E:=by
 rw[if_pos (by simp[Region.wanted,D])];obtain⟨i,hi,X,F,Y⟩:=info_parts TN.info;obtain⟨m,I,H,Z,h1,h2⟩:=U.whole;have f:=y.len;have p:=run_copy_row (P:=Tryz.prog) w 67 67 o.type 3 g 0 n c ⟨B,0,none⟩ n c2 m 3 (u.map cv) TN.sl (by rw[hi];simp[F]) I (by rw[List.length_map,f];exact (Nat.min_self n).symm) y.cells (by rw[List.length_map,f,H];omega) (qyo _);rw[List.length_map,f] at p;unfold Oper.wp;simp[execOp,T,resolve,invoke,builtin,hd,W,p,Result.andThen];have O:(w.setRow g (u.map cv++m.toList.drop n).toArray).1[g]?=some (.cells (u.map cv++m.toList.drop n).toArray 3 (0,0)):=setRow_heap w g _ _ 3 _ I;have e:∀k,k≠g->(w.setRow g (u.map cv++m.toList.drop n).toArray).1[k]?=w.1[k]?:=λk R=>setRow_other w g k _ R
 have key:=J (w.setRow g (u.map cv++m.toList.drop n).toArray) (Jt.of_whole _ O (by rw[List.size_toArray,List.length_append,List.length_map,List.length_drop,f,Array.length_toList,H];omega) (by rw[List.take_left' (by rw[List.length_map,f])]) f h1 h2) e (λS M=>⟨rfl,rfl,rfl,by simp[World.setRow],λk _ hn=>e k λh=>hn (h▸M)⟩);exact key
theorem qha {w:World}{p o:Nat}{S:Nat->Prop}{C:Ct}(H:Yj w p o S C) :
  Calls Tryz.prog 79 #[.pointer (some ⟨p,o,none⟩)] w λe u=>e=.returned (.tuple #[])/\Yj u p o S C.commit/\Turn S w u:=by
 obtain⟨g,f,b,d,t,A,h1,⟨G,I,P,Q⟩,h2,M,m,F,O⟩:=H;have c0:w.drew.cell? ⟨p,o,none⟩=some (.slice (some ⟨g,0,none⟩) C.n f):=Fb (w:=w.drew) h1 G;have c1:w.drew.cell? ⟨p,o+1,none⟩=some (.slice (some ⟨b,0,none⟩) C.n d):=Fb (w:=w.drew) h1 I;have D:Jt w.drew g C.n f C.now:=h2;have E:Jt w.drew b C.n d C.done:=M;go_enter Tryz.func79,Tryz.ntmps79
 go_wp2_with fail
 go_region_held3 (λu=>u.cell? ⟨p,o,none⟩=some (.slice (some ⟨g,0,none⟩) C.n f)/\u.cell? ⟨p,o+1,none⟩=some (.slice (some ⟨b,0,none⟩) C.n d))
  (first|assumption|exact⟨c0,c1⟩|exact B)
  (first
   |(refine qh9 rfl (.tmp 5) (.tmp 9) rfl b C.n d C.done E rfl g f C.now D rfl ?_;intro J R y K;have B:J.cell? ⟨p,o,none⟩=some (.slice (some ⟨g,0,none⟩) C.n f)/\J.cell? ⟨p,o+1,none⟩=some (.slice (some ⟨b,0,none⟩) C.n d):=⟨(World.cell?_of_block (a:=⟨p,o,none⟩) (y p m.2.2)).trans c0,(World.cell?_of_block (a:=⟨p,o+1,none⟩) (y p m.2.2)).trans c1⟩)
   |fail)
 all_goals (
  go_end0
  refine⟨rfl,⟨g,f,b,d,t,A,(y p m.2.2).trans h1,⟨G,I,P,Q⟩,h2.keep (y g m.1),R,m,F,Ct.Oi O⟩,?_⟩;have T:=K S F.2;exact (Turn.refl S w).drew.then T)
theorem qsw (n:Int)(h:n<32\/2048<n)(w:World) :
  Calls Tryz.prog 89 #[.int .i64 n] w λe d=>e=.returned (.tuple #[.pointer none,.int .i64 1])/\w=d:=by
 by_cases h1:n<32
 ·go_enter Tryz.func89,Tryz.ntmps89
  go_wp2;go_ret2;exact⟨rfl,rfl⟩
 ·have h2:2048<n:=by omega
  go_enter Tryz.func89,Tryz.ntmps89
  go_wp2;go_ret2;exact⟨rfl,rfl⟩
section
attribute [local go_sem ↓] qj0
theorem qda (n:Nat)(h1:32<=n)(h2:n<=2048)(w:World) :
  Calls Tryz.prog 89 #[.int .i64 (n:Int)] w λe G=>∃p,e=.returned (.tuple #[.pointer (some ⟨p,0,none⟩),.int .i64 0])/\Yj G p 0 (λk=>w.1.size<=k) (Ct.zero n)/\w.1.size<=p/\Below w.1.size w G:=by
 have H:¬(n:Int)<32:=by omega
 have I:¬(2048:Int)<(n:Int):=by omega
 have hn:n<=1000000:=by omega
 obtain⟨m,hm⟩:∃m,Qh n=m:=⟨_,rfl⟩;have D:=Lib.hid hm;have d:=Lib.hid (show ((Ct.zero n).first:Int)=2+2*(m:Int) by unfold Ct.first;rw[Ct.Zd,hm];omega);clear hm;have F:=qnx n hn w.drew;have B:=qnx n hn (Ub n w.drew);rw[q34] at B;have z0:w.drew.1.size=w.1.size:=rfl;rw[z0] at F B;go_enter Tryz.func89,Tryz.ntmps89
 go_wp2_with fail
 refine (qcc (n:Int) n rfl (by omega) m D.out w).mono ?_;rintro e K ⟨rfl,rfl⟩;go_wp2_with fail
 go_region
 all_goals (
  have u:Jt (Ub n (Ub n w.drew)) (w.1.size+1) n n (List.replicate n 0):=by
   have:=qj1 n hn (Ub n w.drew);rw[q34,z0] at this;exact this
  have f:Jt (Ub n (Ub n w.drew)) w.1.size n n (List.replicate n 0):=by
   have h:=qj1 n hn w.drew;rw[z0] at h;exact h.keep (heap_alloc_old (Ub n w.drew) _ (by rw[q34,z0];omega))
  have A:Below w.1.size w (Ub n (Ub n w.drew)):=((Below.refl _ _).drew.trans (qbl n _ _ (Nat.le_refl _))).trans (qbl n _ _ (by rw[q34,z0];omega));have y:(Ub n (Ub n w.drew)).1.size=w.1.size+2:=by rw[q34,q34,z0]
  clear F B;generalize Ub n (Ub n w.drew)=W at f u A y ⊢;go_wp2_with fail
  go_ret2;rw[y];refine⟨w.1.size+2,rfl,?_,by omega,A.alloc A.size _⟩;have J:=(Ct.Zd n).symm;have hF:=d.out;have E:=D.out;first
   |exact⟨w.1.size,n,w.1.size+1,n,_,_,by rw[<-y];exact heap_alloc_new W _,⟨by rw[Ct.Zd];rfl,by rw[Ct.Zd];rfl,by rw[Ct.Zd,E];rfl,by rw[hF];rfl⟩,by rw[Ct.Zd];exact f.keep (heap_alloc_old W _ f.lt),by rw[Ct.Zd];exact u.keep (heap_alloc_old W _ u.lt),⟨by omega,by omega,by omega⟩,⟨by dsimp only;omega,by dsimp only;omega⟩,Ct.Bg h1 h2⟩
   |exact⟨w.1.size+1,n,w.1.size,n,_,_,by rw[<-y];exact heap_alloc_new W _,⟨by rw[Ct.Zd];rfl,by rw[Ct.Zd];rfl,by rw[Ct.Zd,E];rfl,by rw[hF];rfl⟩,by rw[Ct.Zd];exact u.keep (heap_alloc_old W _ u.lt),by rw[Ct.Zd];exact f.keep (heap_alloc_old W _ f.lt),⟨by omega,by omega,by omega⟩,⟨by dsimp only;omega,by dsimp only;omega⟩,Ct.Bg h1 h2⟩
   |fail)
end
theorem Qa7 (A:Option Addr)(m k c:Nat)(l:List UInt8)(w:World)(h:Sl w A m c l)(F:m=k+2)(hm:m<=100000)(y:Nat)(D:Qw (l.take 2)=y) :
  Calls Tryz.prog 151 #[.slice A m c,.int .i64 2] w λe p=>∃d f,e=.returned (.tuple #[.int .i64 (y:Int),.slice d k f,.int .i64 0])/\Below w.1.size w p:=by
 subst D;refine (q5b A m c l 2 w h (by omega) (by omega) (by omega) (by omega)).mono ?_;rintro e p ⟨d,E,f,rfl,own,B⟩;have u:=own.len;rw[List.length_drop,h.len] at u;have:E=k:=by have:(2:Int).toNat=2:=rfl;omega
 subst this;exact⟨d,f,rfl,B⟩
theorem q9n {w w':World}{A:Option Addr}{n c:Nat}{l:List UInt8}(h:Sl w A n c l){S:Nat->Prop}(T:Turn S w w')(m:∀d,A=some d->¬S d.block):Sl w' A n c l:=
 ⟨h.1,h.2.1,h.2.2.1,λj u y=>by
  obtain⟨d,e,f,p⟩:=h.2.2.2 j u y;exact⟨d,e,Nat.lt_of_lt_of_le f T.size,(World.cell?_of_block (a:=d.add j) (by rw[Ls];exact T.block _ f (m d e))).trans p⟩⟩
theorem qli (C:Ct)(k:Nat)(d:k<C.n)(h:nm C.now k=0):C.put k 0=C:=by
 have e:C.now.set k 0=C.now:=by
  have h1:C.now[k]'d=0:=by
   unfold nm at h;rw[List.getD_eq_getElem?_getD,List.getElem?_eq_getElem d] at h;exact h
  rw[<-h1];exact List.set_getElem_self d
 unfold Ct.put;simp only[e]
theorem qny {w:World}{p:Nat}{S:Nat->Prop}{C:Ct}(H:Yj w p 0 S C)(i:Nat)(hi:i<=1000)(A:Option Addr)(c:Nat)(l:List UInt8)(hs:Sl w A 236 c l)(hA:∀ad,A=some ad->¬S ad.block)(hz:∀a,i*118<=a->a<C.n->nm C.now a=0) :
  Calls Tryz.prog 249 #[.pointer (some ⟨p,0,none⟩),.int .i64 (i:Int),.slice A 236 c] w λe w'=>((e=.returned (.bool true)/\(∀k,k<118->Yt C.n C.first i l k=false)/\Yj w' p 0 S (Yh C.n i l C 118))\/(e=.returned (.bool false)/\∃k,k<118/\Yt C.n C.first i l k=true))/\Turn S w w':=by
 have Hs:=Lib.hid hs;have HA:=Lib.hid hA;have Hz:=Lib.hid hz;have b8:=hs.cap;have a6:=hs.max;unfold maxLen at a6;have d3:=H.ok.1;clear hs hA hz;go_enter Tryz.func249,Tryz.ntmps249
 go_wp2_with fail
 go_loopw [7,8,9,10,11,12] (λ_ _ _ _ _ k wr=>∃t:Nat,t<=118/\k=.int .i64 (t:Int)/\Yj wr p 0 S (Yh C.n i l C t)/\(∀q,q<t->Yt C.n C.first i l q=false)/\Turn S w wr) (λ_ _ _ _ _ k _=>118-(intOf k).toNat)
 case atStart=>exact⟨0,Nat.zero_le _,rfl,H,λq hq=>absurd hq (Nat.not_lt_zero _),Turn.refl _ _⟩
 case round=>
  clear H;obtain⟨t,ht,rfl,R,f,T⟩:=hrel;by_cases b5:t<118
  ·have e3:(t:Int)<118:=by omega
   have e0:(0:Int)<=(t:Int):=by omega
   obtain⟨b,hb⟩:∃b,2*t=b:=⟨_,rfl⟩;have c8:(t:Int)*2=(b:Int):=by omega
   have c9:b<=234:=by omega
   have a7:=q9n Hs.out T HA.out;have Q:=a7.drop (k:=b) (by omega);obtain⟨A2,b4⟩:∃A2,(if c=b then A else Option.map (λx=>x.add b) A)=A2:=⟨_,rfl⟩;rw[b4] at Q;have U:=Q.take (k:=2) (by omega);obtain⟨y,hy⟩:∃y,Qw (((l.drop b).take 2).take 2)=y:=⟨_,rfl⟩;have hX:=Lib.hid (show Fh l t=(y:Int) by unfold Fh;rw[hb,<-hy,List.take_take];rfl);have d4:y<65536:=by
    have h1:=q77 (((l.drop b).take 2).take 2);have h2:(((l.drop b).take 2).take 2).length=2:=by rw[List.length_take,U.len];rfl
    rw[h2,hy] at h1;exact h1
   have Hy:=Lib.hid hy;have b2:=Lib.hid U;have Hb:=Lib.hid hb;have K:=Lib.hid f;have E:(Yh C.n i l C t).n=C.n:=qh7 _ _ _ _ _;have F:(Yh C.n i l C t).first=C.first:=by unfold Ct.first;rw[E]
   obtain⟨a,ha⟩:∃a,i*118+t=a:=⟨_,rfl⟩;have c7:(i:Int)*118+(t:Int)=(a:Int):=by omega
   have c6:a<=200000:=by omega
   have W:a<C.n->nm (Yh C.n i l C t).now a=0:=λh=>by
    rw[qeu i l C t a h,if_neg (by omega)];exact Hz.out a (by omega) h
   have B:=Lib.hid (show Yt C.n C.first i l t=decide ((y:Int)≠0/\(a<C.first\/C.n<=a)) by unfold Yt;rw[hX.out,ha]);have d:=Lib.hid (show Yh C.n i l C (t+1)=if a<C.n then (Yh C.n i l C t).put a (y:Int) else Yh C.n i l C t by rw[<-hX.out,<-ha];rfl);have X:=Lib.hid (show (Yt C.n C.first i l t=false)->∀q,q<t+1->Yt C.n C.first i l q=false from λh q hq=>by
    by_cases e:q=t
    ·rw[e];exact h
    ·exact K.out q (by omega))
   obtain⟨u,Z⟩:∃u,Yh C.n i l C t=u:=⟨_,rfl⟩;rw[Z] at R E F W d;have a2:=Lib.hid (show u.counted a=decide (C.first<=a/\a<C.n) by unfold Ct.counted;rw[E,F]);have Y:=Lib.hid E;have b9:=Lib.hid F;have b3:=Lib.hid W;have Ha:=Lib.hid ha;have i1:2<=c-b:=by omega
   have i2:b<=236:=by omega
   have i3:b<=c:=by omega
   clear a7 Q U hy f Z E F W ha hb;go_wp2_with fail
   refine (Qa7 A2 2 0 (c-b) _ wr b2.out rfl (by omega) y Hy.out).mono ?_;rintro e w4 ⟨A4,c4,rfl,a1⟩;have R4:=R.below a1;have T4:=T.then (Qx a1 |>.mono (S':=S) λk hk=>hk);clear R T;by_cases b1:y=0
   ·subst b1;have D:=Lib.hid (show Yt C.n C.first i l t=false by rw[B.out];simp);have P:=Lib.hid (show Yh C.n i l C (t+1)=u by
     rw[d.out];split
     ·rename_i h;exact qli u a (by rw[Y.out];exact h) (b3.out h)
     ·rfl)
    go_wp2;exact⟨⟨t+1,by omega,by go_num,by rw[P.out];exact R4,X.out D.out,T4⟩,by simp[intOf];omega⟩
   ·have d5:((y:Int)==0)=false:=by simpa using b1
    have b7:¬(y:Int)=0:=by omega
    by_cases m:C.first<=a/\a<C.n
    ·have M:=Lib.hid (show u.counted a=true by rw[a2.out];exact decide_eq_true m);have D:=Lib.hid (show Yt C.n C.first i l t=false by rw[B.out];exact decide_eq_false (by omega));have P:=Lib.hid (show Yh C.n i l C (t+1)=u.put a (y:Int) by rw[d.out,if_pos m.2]);have G:a<u.n:=by rw[Y.out];exact m.2
     obtain⟨g,cg,b0,cb,c0,c1,c2,c3,k1,k2,I,O,J⟩:=R4.open_;obtain⟨hc,d2⟩:=I a G;obtain⟨R5,T5,d0,d1⟩:=J a ((y:Nat):Int) G (by omega) (by omega);rw[<-P.out] at R5;have T6:=T4.then T5;have e8:(a:Int)<(u.n:Int):=by omega
     have e9:(0:Int)<=(a:Int):=by omega
     obtain⟨x0,a8⟩:∃x,nm u.now a=x:=⟨_,rfl⟩;rw[a8] at hc;clear a8 I O J c1 c2 c3 m;go_wp2_with fail
     refine (q21 R4 a true M.out).mono ?_;rintro e w5 ⟨rfl,rfl⟩;go_wp2;exact⟨⟨t+1,by omega,by go_num,R5,X.out D.out,T6⟩,by simp[intOf];omega⟩
    ·have M:=Lib.hid (show u.counted a=false by rw[a2.out];exact decide_eq_false m);have D:=Lib.hid (show Yt C.n C.first i l t=true by rw[B.out];exact decide_eq_true ⟨b7,by omega⟩);clear m;go_wp2_with fail
     refine (q21 R4 a false M.out).mono ?_;rintro e w5 ⟨rfl,rfl⟩;go_wp2;go_ret;exact⟨.inr ⟨rfl,t,b5,D.out⟩,T4⟩
  ·have b6:t=118:=by omega
   subst b6;go_wp2;go_ret;exact⟨.inl ⟨rfl,f,R⟩,T⟩
theorem qsx (n:Nat)(d:List (List UInt8))(h1:32<=n)(h2:n<=2048)(A:Option Addr)(m c:Nat){w:World}(H:Parts w A m c d)(hm:m=Qh n) :
  Calls Tryz.prog 222 #[.int .i64 (n:Int),.slice A m c] w λe w'=>(((∀i,i<Qh n->q4b n (2+2*Qh n) i (nth d i))/\∃p,e=.returned (.tuple #[.pointer (some ⟨p,0,none⟩),.int .i64 0])/\Yj w' p 0 (λk=>w.1.size<=k) (Vr n d)/\w.1.size<=p)\/
   ((¬∀i,i<Qh n->q4b n (2+2*Qh n) i (nth d i))/\e=.returned (.tuple #[.pointer none,.int .i64 3])))/\Below w.1.size w w':=by
 obtain⟨many,G⟩:∃k,Qh n=k:=⟨_,rfl⟩;have c6:many<=1000:=by rw[<-G];unfold Qh;omega
 have K:=Lib.hid G;have b3:m=many:=by omega
 subst b3;rw[G];clear hm G;have b9:m<=c:=H.2.1;have b4:c<=maxLen:=H.2.2.1;unfold maxLen at b4;go_enter Tryz.func222,Tryz.ntmps222
 go_wp2_with fail
 refine (qda n h1 h2 w).mono ?_;rintro e w1 ⟨p,rfl,R,b5,B⟩;have c2:w1.cell? ⟨p,2,none⟩=some (.int .i64 (m:Int)):=by
  obtain⟨_,_,_,_,_,_,c2,_⟩:=R.open_;rw[Ct.Zd,K.out] at c2;exact c2
 have R:=R.shrink;obtain⟨S,hS⟩:∃S:Nat->Prop,(λk=>w.1.size<=k/\k<w1.1.size)=S:=⟨_,rfl⟩;rw[hS] at R;have W:∀k,S k->w.1.size<=k:=λk u=>by rw[<-hS] at u;exact u.1
 clear hS;have y:=Lib.hid W;clear W;go_wp2_with fail
 clear c2;go_loopw [8,9,27] (λ_ _ i wr=>∃j:Nat,j<=m/\i=.int .i64 (j:Int)/\Yj wr p 0 S (Yw n d j)/\(∀q,q<j->q4b n (2+2*m) q (nth d q))/\Below w.1.size w wr) (λ_ _ i _=>m-(intOf i).toNat)
 case atStart=>exact⟨0,Nat.zero_le _,rfl,R,λq hq=>absurd hq (Nat.not_lt_zero _),B⟩
 case round=>
  clear R B;obtain⟨j,hj,rfl,R,f,B⟩:=hrel;by_cases O:j<m
  ·obtain⟨T,A1,n1,c1,eA,b1,Z,E⟩:=H.cell O;subst eA;have b8:=(B.cell (p:=T.add j) (by rw[Ls];exact b1)).trans Z;have P:=E.below B;have e3:(j:Int)<(m:Int):=by omega
   have e0:(0:Int)<=(j:Int):=by omega
   have M:=E.len;obtain⟨l,hl⟩:∃l,nth d j=l:=⟨_,rfl⟩;rw[hl] at E P M;have Hl:=Lib.hid hl;have D:=Lib.hid f;have Q:=Lib.hid M;clear hl f Z M;by_cases J:n1=236
   ·subst J;have U:∀T,A1=some T->¬S T.block:=λT e=>by
     obtain⟨b6,e',hb,_⟩:=E.cell (k:=0) (by omega);rw[e] at e';injection e' with e';subst e';exact λh=>absurd (y.out _ h) (by omega)
    have a8:=Lib.hid U;have a6:=Lib.hid P;clear U P E;have I:(Yw n d j).n=n:=q9l _ _ _;have a1:(Yw n d j).first=2+2*m:=by unfold Ct.first;rw[I,K.out]
    have a7:∀a,j*118<=a->a<(Yw n d j).n->nm (Yw n d j).now a=0:=λa b7 X=>by
     rw[I] at X;rw[q9m n d j a X,if_neg (by omega)]
    have F:Yh n j l (Yw n d j) 118=Yw n d (j+1):=by rw[<-Hl.out];rfl
    have u:=qny R j (by omega) A1 c1 l a6.out a8.out a7;rw[I,a1,F] at u;have Hk:=Lib.hid u;clear u I a1 a7 F;go_wp2_with fail
    refine Hk.out.mono ?_;rintro e w4 ⟨⟨rfl,hg,R4⟩|⟨rfl,q,hq,hg⟩,T4⟩
    ·have B4:=B.trans (T4.below (λ_ u=>y.out _ u) B.size);have Hg:=Lib.hid hg;clear hg R;go_wp2;refine⟨⟨j+1,by omega,by go_num,R4,λq hq=>?_,B4⟩,by simp[intOf];omega⟩;by_cases e:q=j
     ·rw[e,Hl.out];exact⟨Q.out,Hg.out⟩
     ·exact D.out q (by omega)
    ·have B4:=B.trans (T4.below (λ_ u=>y.out _ u) B.size);have a2:¬∀i,i<m->q4b n (2+2*m) i (nth d i):=λhh=>by
      have h3:=(hh j O).2 q hq;rw[Hl.out,hg] at h3
      cases h3
     have b0:=Lib.hid a2;clear a2 hg;go_wp2;go_ret2;exact⟨.inr ⟨b0.out,rfl⟩,B4⟩
   ·have e4:¬(n1:Int)=236:=by omega
    have Y:=Lib.hid (show ¬∀i,i<m->q4b n (2+2*m) i (nth d i) from λhh=>J (by have:=(hh j O).1;rw[Hl.out] at this;exact Q.out.symm.trans this));have hb:((n1:Int)==236)=false:=by simpa using e4
    go_wp2;go_ret2;exact⟨.inr ⟨Y.out,rfl⟩,B⟩
  ·have b2:j=m:=by omega
   subst b2;have D:=Lib.hid f;clear f;go_wp2_with fail
   refine (qha R).mono ?_;rintro e w5 ⟨rfl,R5,T5⟩;go_wp2;go_ret2;refine⟨.inl ⟨D.out,p,rfl,?_,b5⟩,B.trans (T5.below (λ_ u=>y.out _ u) B.size)⟩;exact (show Vr n d=(Yw n d j).commit by unfold Vr;rw[K.out])▸R5.mono λk u=>y.out k u
theorem qnz (n:Int)(h:n<32\/2048<n)(A:Option Addr)(m c:Nat)(w:World) :
  Calls Tryz.prog 222 #[.int .i64 n,.slice A m c] w λe d=>e=.returned (.tuple #[.pointer none,.int .i64 1])/\w=d:=by
 have H:=Lib.hid h;clear h;go_enter Tryz.func222,Tryz.ntmps222
 go_wp2_with fail
 refine (qsw n H.out w).mono ?_;rintro e f ⟨rfl,rfl⟩;go_wp2;go_ret2;exact⟨rfl,rfl⟩
theorem qlj (n:Nat)(h1:32<=n)(h2:n<=2048)(A:Option Addr)(m c:Nat)(w:World)(hm:m≠Qh n) :
  Calls Tryz.prog 222 #[.int .i64 (n:Int),.slice A m c] w λe y=>e=.returned (.tuple #[.pointer none,.int .i64 3])/\Below w.1.size w y:=by
 obtain⟨k,d⟩:∃k,Qh n=k:=⟨_,rfl⟩;rw[d] at hm;have f:=Lib.hid d;have u:¬(m:Int)=(k:Int):=by omega
 have E:((m:Int)==(k:Int))=false:=by simpa using u
 clear d;go_enter Tryz.func222,Tryz.ntmps222
 go_wp2_with fail
 refine (qda n h1 h2 w).mono ?_;rintro e D ⟨p,rfl,R,_,B⟩;have c2:D.cell? ⟨p,2,none⟩=some (.int .i64 (k:Int)):=by
  obtain⟨_,_,_,_,_,_,c2,_⟩:=R.open_;rw[Ct.Zd,f.out] at c2;exact c2
 go_wp2;go_ret2;exact⟨rfl,B⟩
theorem qo0 (n:Int)(d:List (List UInt8))(A:Option Addr)(m c:Nat){w:World}(H:Parts w A m c d) :
  Calls Tryz.prog 222 #[.int .i64 n,.slice A m c] w λe u=>((J9 n d=0/\∃p,e=.returned (.tuple #[.pointer (some ⟨p,0,none⟩),.int .i64 0])/\Yj u p 0 (λk=>w.1.size<=k) (Vr n.toNat d)/\w.1.size<=p)\/
   (J9 n d≠0/\e=.returned (.tuple #[.pointer none,.int .i64 (J9 n d)])))/\Below w.1.size w u:=by
 by_cases hn:32<=n/\n<=2048
 ·obtain⟨k,rfl⟩:=Int.eq_ofNat_of_zero_le (show 0<=n by omega);by_cases hm:m=Qh k
  ·refine (qsx k d (by omega) (by omega) A m c H hm).mono ?_;have E:d.length=Qh k:=H.len.trans hm;rintro e u ⟨⟨y,p,rfl,R,D⟩|⟨y,rfl⟩,B⟩
   ·have f:J9 (k:Int) d=0:=by unfold J9;rw[Int.toNat_natCast,if_neg (λh=>h hn),if_neg (λh=>h.elim (λh=>h E) (λh=>h y))]
    exact⟨.inl ⟨f,p,rfl,R,D⟩,B⟩
   ·have f:J9 (k:Int) d=3:=by unfold J9;rw[Int.toNat_natCast,if_neg (λh=>h hn),if_pos (.inr y)]
    rw[f];exact⟨.inr ⟨by omega,rfl⟩,B⟩
  ·refine (qlj k (by omega) (by omega) A m c w hm).mono ?_;rintro e u ⟨rfl,B⟩;have f:J9 (k:Int) d=3:=by unfold J9;rw[Int.toNat_natCast,if_neg (λh=>h hn),if_pos (.inl (by rw[H.len];exact hm))]
   rw[f];exact⟨.inr ⟨by omega,rfl⟩,B⟩
 ·refine (qnz n (by omega) A m c w).mono ?_;rintro e u ⟨rfl,rfl⟩;have f:J9 n d=1:=by unfold J9;rw[if_pos hn]
  rw[f];exact⟨.inr ⟨by omega,rfl⟩,Below.refl _ _⟩
theorem qev {w:World}{g n c:Nat}{l:List Int}(H:Jt w g n c l)(h0:0<n)(h1:n<=1000000) :
  Calls Tryz.prog 112 #[.slice (some ⟨g,0,none⟩) n c] w λe A=>∃m y,e=.returned (.slice (some ⟨m,0,none⟩) n y)/\w.1.size<=m/\Jt A m n y l/\Below w.1.size w A:=by
 have f:Below w.1.size w (w.alloc (.cells #[] 3)):=Qk;have u:Jt (w.alloc (.cells #[] 3)) g n c l:=H.keep (f.block g H.lt);have B:(w.alloc (.cells #[] 3)).1.size=w.1.size+1:=by simp
 have D:(binOp .eql 67 (.slice (some ⟨g,0,none⟩) n c) (.slice none 0 0)).run Tryz.prog w=.ok (.bool false) w:=Lib.run_eql_slice_nil w _ 3 _ n c 0 0 TN.sl;go_enter Tryz.func112,Tryz.ntmps112
 go_wp2_with (first
  |(at_builtin;refine q9k _ TN rfl _ _ rfl w.1.size rfl ⟨g,0,none⟩ n c rfl l u.len u.cells h0 h1 ?_;intro c3 E d p)
  |fail)
 go_ret;rw[B] at d;exact⟨_,_,rfl,by omega,qpn d (Nat.zero_le _),f.trans (p.mono f.size)⟩
theorem qlk {w:World}{p o:Nat}{S:Nat->Prop}{C:Ct}(H:Yj w p o S C) :
  Calls Tryz.prog 68 #[.pointer (some ⟨p,o,none⟩)] w λe w'=>∃q,e=.returned (.pointer (some ⟨q,0,none⟩))/\Yj w' q 0 (λk=>w.1.size<=k) C/\w.1.size<=q/\Below w.1.size w w':=by
 have b2:=H.ok.1;have Y:=H.lt;obtain⟨g,m,b,f,t,J,h1,⟨o0,o1,o2,o3⟩,h2,U,h4,h5,h6⟩:=H;have c0:w.cell? ⟨p,o,none⟩=some (.slice (some ⟨g,0,none⟩) C.n m):=Fb h1 o0;have c1:w.cell? ⟨p,o+1,none⟩=some (.slice (some ⟨b,0,none⟩) C.n f):=Fb h1 o1;have c2:w.cell? ⟨p,o+2,none⟩=some (.int .i64 (Qh C.n:Int)):=Fb h1 o2;have c3:w.cell? ⟨p,o+3,none⟩=some (.int .i64 (C.first:Int)):=Fb h1 o3;go_enter Tryz.func68,Tryz.ntmps68
 go_wp2_with fail
 clear c0 c1 c2 c3;have K:=heap_alloc_new w (.cells #[.slice (some ⟨g,0,none⟩) C.n m,.slice (some ⟨b,0,none⟩) C.n f,.int .i64 (Qh C.n:Int),.int .i64 (C.first:Int)] 122);have E:Below w.1.size w (w.alloc (.cells #[.slice (some ⟨g,0,none⟩) C.n m,.slice (some ⟨b,0,none⟩) C.n f,.int .i64 (Qh C.n:Int),.int .i64 (C.first:Int)] 122)):=Qk;have O:(w.alloc (.cells #[.slice (some ⟨g,0,none⟩) C.n m,.slice (some ⟨b,0,none⟩) C.n f,.int .i64 (Qh C.n:Int),.int .i64 (C.first:Int)] 122)).1.size=w.1.size+1:=by simp
 generalize w.alloc (.cells #[.slice (some ⟨g,0,none⟩) C.n m,.slice (some ⟨b,0,none⟩) C.n f,.int .i64 (Qh C.n:Int),.int .i64 (C.first:Int)] 122)=u at K E O ⊢;have n1:Jt u.drew g C.n m C.now:=h2.keep (E.block g h2.lt);have n2:Jt u.drew b C.n f C.done:=U.keep (E.block b U.lt);have p1:u.drew.1[p]?=some (.cells J t (0,0)):=(E.block p Y).trans h1;have c0:u.drew.cell? ⟨p,o,none⟩=some (.slice (some ⟨g,0,none⟩) C.n m):=Fb p1 o0;have c1:u.drew.cell? ⟨p,o+1,none⟩=some (.slice (some ⟨b,0,none⟩) C.n f):=Fb p1 o1;have P:u.drew.1.size=w.1.size+1:=O;have b3:=h4.2.1;generalize hQ:w.1.size=q at K O P Y;have M:u.drew.1[q]?=some (.cells #[.slice (some ⟨g,0,none⟩) C.n m,.slice (some ⟨b,0,none⟩) C.n f,.int .i64 (Qh C.n:Int),.int .i64 (C.first:Int)] 122 (0,0)):=K;go_region_with (first
  |(go_at_call 112;have hh:=A;refine (qev (n2.keep (A.block b n2.lt)) (by omega) (by omega)).mono ?_;rintro e y ⟨G,B,rfl,b0,m2,F⟩;have Q:=(F.block q (by have:=A.size;omega)).trans q3;have a7:y.frozen? ⟨q,0,none⟩=false:=(by unfold World.frozen?;rw[Q];simp);have a2:y.cell? ⟨q,0,none⟩=some (.slice (some ⟨g,0,none⟩) C.n m):=(by rw[cell_of_row _ _ _ _ _ _ Q];rfl);have R:=heap_setCell_same y q 0 _ 122 (.slice (some ⟨D,0,none⟩) C.n d) Q;have a8:(y.setCell ⟨q,0,none⟩ (.slice (some ⟨D,0,none⟩) C.n d)).frozen? ⟨q,1,none⟩=false:=(by unfold World.frozen?;rw[R];simp);have a6:(y.setCell ⟨q,0,none⟩ (.slice (some ⟨D,0,none⟩) C.n d)).cell? ⟨q,1,none⟩=some (.slice (some ⟨b,0,none⟩) C.n f):=(by rw[cell_of_row _ _ _ _ _ _ R];rfl))
  |(go_at_call 112;refine (qev n1 (by omega) (by omega)).mono ?_;rintro e w3 ⟨D,d,rfl,b1,Z,A⟩;have q3:=(A.block q (by omega)).trans M;have a1:=(A.cell (p:=⟨p,o+1,none⟩) (by show p<_;omega)).trans c1)
  |fail)
 all_goals (
  go_wp2_with fail
  go_ret;have q6:=heap_setCell_same _ q 1 _ 122 (.slice (some ⟨G,0,none⟩) C.n B) R;have T:∀j,j≠q->((y.setCell ⟨q,0,none⟩ (.slice (some ⟨D,0,none⟩) C.n d)).setCell ⟨q,1,none⟩ (.slice (some ⟨G,0,none⟩) C.n B)).1[j]?=y.1[j]?:=λj W=>(Below.heap_setCell _ _ _ _ (by show j≠q;exact W)).trans (Below.heap_setCell _ _ _ _ (by show j≠q;exact W))
  have z3:=A.size;have z4:=F.size;have l1:=Z.lt;have l2:=m2.lt;have b4:q<y.1.size:=by omega
  refine⟨q,rfl,⟨D,d,G,B,_,_,q6,⟨rfl,rfl,rfl,rfl⟩,?_,m2.keep (T G (by omega)),⟨by omega,by omega,by omega⟩,⟨by omega,by omega⟩,h6⟩,by omega,?_⟩
  ·exact (Z.keep (F.block D l1)).keep (T D (by omega))
  ·have I:Below w.1.size w y:=E.trans ((((Below.refl u.1.size u).drew.trans A).mono (by omega)).trans (F.mono (by omega)));exact ((Qx I).then ((Ac (S:=λk=>k=q) (a:=⟨q,0,none⟩) _ rfl).then (Ac (a:=⟨q,1,none⟩) _ rfl) |>.mono λk X=>X)).below (λk X=>by omega) (Nat.le_refl _))
theorem Qa6 (x:Int)(w:World) :
  Calls Tryz.prog 180 #[.slice none 0 0,.int .i64 x,.int .i64 2] w λe m=>∃d f,e=.returned (.slice d 2 f)/\Sl m d 2 f (Qy x 2)/\Below w.1.size w m:=by
 have p:=q79 none 0 0 [] x 2 w (Ik w) (by omega);rw[show Aa [] x 2=Qy x 2 from rfl] at p;refine p.mono ?_;rintro e m ⟨d,A,f,rfl,own,y⟩;have u:=own.len;rw[Xf] at u;subst u;exact⟨d,f,rfl,own.sl,y⟩
theorem qew {w:World}{p o:Nat}{S:Nat->Prop}{C:Ct}(H:Yj w p o S C)(i:Int) :
  Calls Tryz.prog 134 #[.pointer (some ⟨p,o,none⟩),.int .i64 i] w λe Y=>∃A n c,e=.returned (.slice A n c)/\Sl Y A n c (C.body i)/\Below w.1.size w Y/\∀B,A=some B->w.1.size<=B.block:=by
 obtain⟨many,hm⟩:∃m,Qh C.n=m:=⟨_,rfl⟩;have a6:=H.ok.1;have a2:many<=1000:=by rw[<-hm];unfold Qh;omega
 obtain⟨g,cg,b,cb,c0,c1,c2,c3,k1,k2,J,y,K⟩:=H.open_;clear J y K c1 c0 c3 k1 k2;rw[hm] at c2;have X:=Lib.hid hm;clear hm;by_cases hi:0<=i/\i<(many:Int)
 ·have d:=Lib.hid (show C.body i=C.Zq (i*118) 118 by unfold Ct.body;rw[X.out,if_pos hi]);obtain⟨q,rfl⟩:=Int.eq_ofNat_of_zero_le hi.1;have e1:¬(q:Int)<0:=by omega
  have e2:¬(many:Int)<=(q:Int):=by omega
  have hq:q<many:=by omega
  have d1:decide ((q:Int)<0)=false:=by simp
  have d2:decide ((many:Int)<=(q:Int))=false:=by simp;omega
  have d3:decide (many<=q)=false:=by simp;omega
  go_enter Tryz.func134,Tryz.ntmps134
  go_wp2_with (first
   |(at_make;refine qei _ Ig rfl _ _ rfl _ _ 236 rfl rfl (by omega) ?_)
   |fail)
  intro w1 Ot G;go_wp2_with fail
  go_loopw [5,6,18] (λb _ k wr=>∃(j:Nat) (O:Option Addr) (P:Nat),j<=118/\k=.int .i64 (j:Int)/\b=.slice O (2*j) P/\Own wr w.1.size 5 O (2*j) P (C.Zq ((q:Int)*118) j)/\Below w.1.size w wr) (λ_ _ k _=>118-(intOf k).toNat)
  case atStart=>exact⟨0,_,_,by omega,rfl,rfl,Ot,G⟩
  case round=>
   clear Ot G;obtain⟨j,O,P,hj,rfl,rfl,own,Q⟩:=hrel;by_cases a1:j<118
   ·have Hr:=H.below Q;have e3:(j:Int)<118:=by omega
    obtain⟨x,U⟩:∃x,C.get ((q:Int)*118+(j:Int))=x:=⟨_,rfl⟩;have u:=Lib.hid (show C.Zq ((q:Int)*118) (j+1)=C.Zq ((q:Int)*118) j++Qy x 2 by rw[<-U];rfl);have Hx:=Lib.hid U;clear U c2;go_wp2_with fail
    refine (q2c Hr _ x Hx.out).mono ?_;rintro e w3 ⟨rfl,rfl⟩;go_wp2_with fail
    refine (Qa6 x wr).mono ?_;rintro e w4 ⟨Z,c4,rfl,W,I⟩;have M:=own.below I;have F:=Q.trans (I.mono Q.size);go_wp2_with (at_builtin;refine q97 _ Ig rfl _ _ rfl w.1.size O (2*j) P _ rfl M Z 2 c4 _ rfl W (by omega) F.size ?_)
    intro A5 c5 w5 f R;rw[<-u.out] at f;go_wp2;exact⟨⟨j+1,A5,c5,by omega,by go_num,rfl,f,F.trans R⟩,by simp[intOf];omega⟩
   ·have T:j=118:=by omega
    subst T;have E:=own.sl;have D:=λB e=>(own.block B e).1
    go_wp2;go_ret;rw[d.out];exact⟨_,_,_,rfl,E,Q,D⟩
 ·have d:=Lib.hid (show C.body i=[] by unfold Ct.body;rw[X.out,if_neg hi]);by_cases h0:i<0
  ·go_enter Tryz.func134,Tryz.ntmps134
   go_wp2;go_ret;rw[d.out];exact⟨_,_,_,rfl,Ik _,Below.refl _ _,λB e=>by cases e⟩
  ·have e2:(many:Int)<=i:=by omega
   have e1:¬i<0:=h0;go_enter Tryz.func134,Tryz.ntmps134
   go_wp2;go_ret;rw[d.out];exact⟨_,_,_,rfl,Ik _,Below.refl _ _,λB e=>by cases e⟩
