/- The reference's counts: New -/
import Derived.Test.YtnnbaihfboacoaaGreatDoorEr13
import Derived.Laws.CopyOwn
import Derived.Lib.SliceRun
namespace Go.Proofs.YtnnbaihfboacoaaGreatDoor
open Go Go.RowKit Go.Proofs
set_option maxHeartbeats 4000000
set_option maxRecDepth 10000
def mkI (a b:Value):Sem Value:=Instr.makeSlice 36 a b
theorem qky (a b:Value):Instr.makeSlice 36 a b=mkI a b:=rfl
def Ua (n:Nat)(w:World):World:=w.alloc (.cells (madeCells #[.int .i64 0] (n*1)) 3)
theorem qrc (n:Nat)(hn:n<=1000000)(w:World):(mkI (.int .i64 (n:Int)) (.int .i64 (n:Int))).run Tryz.prog w=.ok (.slice (some ⟨w.1.size,0,none⟩) n n) (Ua n w):=by
 obtain⟨i,f,d,b,e⟩:=info_parts TN.info;have h:=run_makeSlice (P:=Tryz.prog) w 36 3 i _ TN.sl f d .i64 .i64 n n (by omega) (by omega) (by rw[b,Int.toNat_natCast];omega) (by rw[e];omega) (by omega);rw[b] at h;exact h
theorem qkz (n:Nat)(hn:n<=1000000)(w:World):J6 (Ua n w) w.1.size n n (List.replicate n 0):=by
 have hm:(madeCells #[.int .i64 0] (n*1)).toList=(List.replicate n (0:Int)).map cv:=quh n;have b:=congrArg List.length hm;rw[Array.length_toList,List.length_map,List.length_replicate] at b;refine⟨by rw[List.length_map,List.length_replicate,Nat.mul_one],.inr ⟨w.1.size,n,_,rfl,Nat.zero_le _,heap_alloc_new w _,Nat.le_refl _,by unfold maxLen;omega,by rw[b,Nat.mul_one],?_⟩⟩;rw[hm,List.take_of_length_le (by rw[List.length_map,List.length_replicate,Nat.mul_one];exact Nat.le_refl _)]
theorem qd8 (n base:Nat)(w:World)(h:base<=w.1.size):Below base w (Ua n w):=(Below.refl _ _).alloc h _
theorem q3w (n:Nat)(w:World):(Ua n w).1.size=w.1.size+1:=by simp[Ua]
section
attribute [local go_sem ↓] qky
end
def Ct.Zz (C:Ct)(m:Int):Nat->List UInt8
 |0=>[]
 |k+1=>C.Zz m k++Zc (C.get (m+(k:Int))) 2
theorem Ct.Xa (C:Ct)(m:Int)(k:Nat):(C.Zz m k).length=2*k:=by
 induction k with
 |zero=>rfl
 |succ k ih=>show (C.Zz m k++Zc _ 2).length=_;rw[List.length_append,ih,Yl];omega
def Ct.body (C:Ct)(i:Int):List UInt8:=if 0<=i/\i<(Qe C.n:Int) then C.Zz (i*118) 118 else []
section
def F7 (l:List UInt8)(k:Nat):Int:=Q8 ((l.drop (2*k)).take 2)
def Yy (n f i:Nat)(l:List UInt8)(k:Nat):Bool:=decide (F7 l k≠0/\(i*118+k<f\/n<=i*118+k))
def Yo (n i:Nat)(l:List UInt8)(C:Ct):Nat->Ct
 |0=>C
 |k+1=>if i*118+k<n then (Yo n i l C k).put (i*118+k) (F7 l k) else Yo n i l C k
def q57 (n f i:Nat)(l:List UInt8):Prop:=l.length=236/\∀k,k<118->Yy n f i l k=false
def Y2 (n:Nat)(b:List (List UInt8)):Nat->Ct
 |0=>Ct.zero n
 |i+1=>Yo n i (nth b i) (Y2 n b i) 118
open Classical in
noncomputable def Xf (n:Int) (b:List (List UInt8)):Int:=if ¬(32<=n/\n<=2048) then 1 else if b.length≠Qe n.toNat\/¬∀i,i<Qe n.toNat->q57 n.toNat (2+2*Qe n.toNat) i (nth b i) then 3 else 0
def Vu (n:Nat)(b:List (List UInt8)):Ct:=(Y2 n b (Qe n)).commit
theorem qil (n i:Nat)(l:List UInt8)(C:Ct)(k:Nat):(Yo n i l C k).n=C.n:=by
 induction k with
 |zero=>rfl
 |succ k ih=>unfold Yo;split;rw[Ct.Zi,ih];exact ih
theorem qb8 (n:Nat)(b:List (List UInt8))(i:Nat):(Y2 n b i).n=n:=by
 induction i with
 |zero=>exact Ct.Q9 n
 |succ i ih=>exact (qil _ _ _ _ _).trans ih
end
theorem qim (C:Ct)(m:Int)(n k:Nat)(h:k<n):((C.Zz m n).drop (2*k)).take 2=Zc (C.get (m+(k:Int))) 2:=by
 induction n with
 |zero=>omega
 |succ n ih=>
  show ((C.Zz m n++Zc (C.get (m+(n:Int))) 2).drop (2*k)).take 2=_;by_cases b:k<n
  ·rw[List.drop_append_of_le_length (by rw[C.Xa];omega),List.take_append_of_le_length (by rw[List.length_drop,C.Xa];omega)];exact ih b
  ·obtain rfl:k=n:=by omega
   rw[List.drop_append,List.drop_eq_nil_of_le (by rw[C.Xa];omega),C.Xa,Nat.sub_self,List.nil_append,List.drop_zero,List.take_of_length_le (by rw[Yl];omega)]
theorem Ct.Sz {C:Ct}(h:C.ok){i k:Nat}(hi:i<Qe C.n)(hk:k<118):F7 (C.body (i:Int)) k=C.get ((i:Int)*118+(k:Int)):=by
 have b:C.body (i:Int)=C.Zz ((i:Int)*118) 118:=by unfold Ct.body;rw[if_pos ⟨by omega,by omega⟩]
 unfold F7;rw[b,qim C _ 118 k hk];have h1:=C.Jc h ((i:Int)*118+(k:Int));exact q8y _ 2 h1.1 (by have:=h1.2;simp;omega)
theorem Ct.Ug {C:Ct}{i:Nat}(hi:i<Qe C.n):(C.body (i:Int)).length=236:=by
 unfold Ct.body;rw[if_pos ⟨by omega,by omega⟩,C.Xa]
theorem q6d (C:Ct)(k:Nat)(x:Int)(a:Nat)(b:a<C.n):nm (C.put k x).now a=if a=k then x else nm C.now a:=by
 show nm (C.now.set k x) a=_;by_cases h:a=k
 ·subst h;rw[if_pos rfl,q4e _ _ _ b]
 ·rw[if_neg h,q56 _ _ _ _ (λe=>h e.symm)]
theorem qh3 (i:Nat)(l:List UInt8)(C:Ct)(k a:Nat)(d:a<C.n):nm (Yo C.n i l C k).now a=if i*118<=a/\a<i*118+k then F7 l (a-i*118) else nm C.now a:=by
 induction k with
 |zero=>rw[if_neg (by omega)];rfl
 |succ k ih=>
  unfold Yo;by_cases b:i*118+k<C.n
  ·rw[if_pos b,q6d _ _ _ _ (by rw[qil];exact d),ih];by_cases e:a=i*118+k
   ·rw[if_pos e,if_pos (by omega),show a-i*118=k by omega]
   ·rw[if_neg e];by_cases h2:i*118<=a/\a<i*118+k
    ·rw[if_pos h2,if_pos (by omega)]
    ·rw[if_neg h2,if_neg (by omega)]
  ·rw[if_neg b,ih];by_cases h2:i*118<=a/\a<i*118+k
   ·rw[if_pos h2,if_pos (by omega)]
   ·rw[if_neg h2,if_neg (by omega)]
theorem qb9 (n:Nat)(b:List (List UInt8))(i a:Nat)(d:a<n):nm (Y2 n b i).now a=if a<i*118 then F7 (nth b (a / 118)) (a % 118) else 0:=by
 induction i with
 |zero=>
  rw[if_neg (by omega)];show nm (List.replicate n 0) a=0;unfold nm;simp[d]
 |succ i ih=>
  have h:=qh3 i (nth b i) (Y2 n b i) 118 a (by rw[qb8];exact d);rw[qb8,ih] at h;refine (show nm (Y2 n b (i+1)).now a=_ from h).trans ?_;by_cases h1:i*118<=a/\a<i*118+118
  ·rw[if_pos h1,if_pos (by omega),show a / 118=i by omega,show a % 118=a-i*118 by omega]
  ·rw[if_neg h1];by_cases h2:a<i*118
   ·rw[if_pos h2,if_pos (by omega)]
   ·rw[if_neg h2,if_neg (by omega)]
def Ct.res (C:Ct):Prop:=∀a,a<C.n->a<C.first->nm C.now a=0
def Ct.bodies (C:Ct):List (List UInt8):=(List.range (Qe C.n)).map λ(i:Nat)=>C.body (i:Int)
theorem Ct.Dz (C:Ct){i:Nat}(h:i<Qe C.n):nth C.bodies i=C.body (i:Int):=by
 unfold nth Ct.bodies;rw[List.getD_eq_getElem?_getD,List.getElem?_map,List.getElem?_range h];rfl
theorem Ct.Oo {C:Ct}(h:C.ok)(hr:C.res){i:Nat}(hi:i<Qe C.n):q57 C.n (2+2*Qe C.n) i (nth C.bodies i):=by
 rw[C.Dz hi];refine⟨Ct.Ug hi,λk b=>?_⟩;unfold Yy;rw[Ct.Sz h hi b];refine decide_eq_false ?_;rintro⟨h1,h2⟩;refine h1 ?_;unfold Ct.get;split
 ·rename_i d;have e:((i:Int)*118+(k:Int)).toNat=i*118+k:=by omega
  rw[e];rcases h2 with h2|h2
  ·exact hr _ (by omega) h2
  ·omega
 ·rfl
theorem Ct.Lr {C:Ct}(h:C.ok)(hr:C.res):Xf (C.n:Int) C.bodies=0/\Vu C.n C.bodies=C.commit:=by
 have B:C.bodies.length=Qe C.n:=by unfold Ct.bodies;rw[List.length_map,List.length_range]
 constructor
 ·unfold Xf;rw[Int.toNat_natCast,if_neg (λe=>e (by have:=h.1;omega)),if_neg];rintro (e|e)
  ·exact e B
  ·exact e λi A=>Ct.Oo h hr A
 ·have m:(Y2 C.n C.bodies (Qe C.n)).now=C.now:=by
   have h1:(Y2 C.n C.bodies (Qe C.n)).now.length=C.now.length:=qb8 _ _ _;refine List.ext_getElem h1 λa p d=>?_
   have y:a<C.n:=d;have b:=qb9 C.n C.bodies (Qe C.n) a y;have f:a / 118<Qe C.n:=by unfold Qe;omega
   rw[if_pos (by unfold Qe;omega),C.Dz f,Ct.Sz h f (Nat.mod_lt _ (by omega))] at b;have u:((a / 118:Nat):Int)*118+((a % 118:Nat):Int)=(a:Int):=by omega
   rw[u] at b;unfold Ct.get at b;rw[if_pos ⟨by omega,by omega⟩,Int.toNat_natCast] at b;unfold nm at b;simpa [p,d] using b
  unfold Vu Ct.commit;simp only[m]
theorem Ct.Bj {C D:Ct}(h:D.n=C.n):D.first=C.first:=by unfold Ct.first;rw[h]
theorem Ct.Au {C:Ct}(h:C.res){k:Nat}(x:Int)(hk:C.first<=k):(C.put k x).res:=λa b d=>by
 rw[C.Zi] at b;rw[Ct.Bj (C.Zi k x)] at d;rw[q6d C k x a b,if_neg (by omega)];exact h a b d
theorem Ct.Kw {C:Ct}(h:C.res){a:Int}(hg:¬C.get a=0):0<=a/\a<(C.n:Int)/\C.first<=a.toNat:=by
 obtain⟨h1,h2,d⟩:=Ct.Et hg;refine⟨h1,h2,?_⟩;rcases Nat.lt_or_ge a.toNat C.first with b|b
 ·exact absurd (d.trans (h a.toNat (by omega) b)) hg
 ·exact b
theorem Ct.Xk {C:Ct}{k:Nat}(h:C.pick=some k):k<C.n/\C.first<=k/\nm C.now k=0/\nm C.done k=0/\∀j,j<k->C.may j=false:=by
 unfold Ct.pick at h;rw[List.find?_range_eq_some] at h;obtain⟨h1,h2,b⟩:=h;unfold Ct.may Ct.U3 at h1;rw[Bool.and_eq_true,decide_eq_true_iff,decide_eq_true_iff] at h1;exact⟨List.mem_range.1 h2,h1.1,h1.2.1,h1.2.2,λj d=>by have:=b j d;simpa using this⟩
theorem Ct.Qad {C:Ct}(h:C.pick=none):∀j,j<C.n->C.may j=false:=λj b=>by
 unfold Ct.pick at h;rw[List.find?_eq_none] at h;have:=h j (List.mem_range.2 b);simpa using this
theorem Ct.Ws {C:Ct}(h:C.pick=none):C.free=0:=by
 unfold Ct.free Ct.Jw;rw[List.countP_eq_zero];intro j b;rw[Ct.Qad h j (List.mem_range.1 b)];simp
theorem Ct.Eo (C:Ct):C.alloc.n=C.n:=by unfold Ct.alloc;split;exact C.Zi _ _;rfl
theorem Ct.Qa1 (C:Ct)(a:Int):(C.ref a).n=C.n:=by unfold Ct.ref;split;exact C.Zi _ _;rfl
theorem Ct.Fj (C:Ct)(a:Int):(C.Qy a).n=C.n:=by unfold Ct.Qy;split;rfl;exact C.Zi _ _
theorem Ct.Sm {C:Ct}(h:C.ok):C.alloc.ok:=by unfold Ct.alloc;split;exact Ct.G9 h _ _ (by omega) (by omega);exact h
theorem Ct.Ol {C:Ct}(h:C.res):C.alloc.res:=by
 unfold Ct.alloc;split
 ·rename_i k b;exact Ct.Au h _ (Ct.Xk b).2.1
 ·exact h
theorem Ct.Qat {C:Ct}(h:C.res)(a:Int):(C.ref a).res:=by
 unfold Ct.ref;split
 ·rename_i b;have d:¬C.get a=0:=λe=>by unfold Ct.Y8 at b;rw[if_pos e] at b;omega
  exact Ct.Au h _ (Ct.Kw h d).2.2
 ·exact h
theorem Ct.Po {C:Ct}(h:C.res)(a:Int):(C.Qy a).res:=by
 unfold Ct.Qy;split
 ·exact h
 ·rename_i b;exact Ct.Au h _ (Ct.Kw h b).2.2
theorem Ct.Qas {C:Ct}(h:C.ok)(a:Int):(C.ref a).ok:=by
 unfold Ct.ref;split
 ·rename_i b;have d:=C.Jc h a;refine Ct.G9 h _ _ (by omega) ?_;unfold Ct.Y8 at b;split at b
  ·omega
  ·split at b<;>omega
 ·exact h
theorem Ct.Pn {C:Ct}(h:C.ok)(a:Int):(C.Qy a).ok:=by
 unfold Ct.Qy;split
 ·exact h
 ·have b:=C.Jc h a;exact Ct.G9 h _ _ (by omega) (by omega)
theorem Ct.Ip (n:Nat):(Ct.zero n).res:=λa b _=>by
 rw[Ct.Q9] at b;show nm (List.replicate n 0) a=0;unfold nm;simp[b]
theorem Ct.Eu (C:Ct)(j:Nat):C.may j=decide (C.first<=j/\nm C.now j=0/\nm C.done j=0):=by
 unfold Ct.may Ct.U3;rw[Bool.eq_iff_iff];simp
def Ct.is (C:Ct)(n:Nat)(f d:Nat->Int):Prop:=C.n=n/\∀a,a<n->nm C.now a=f a/\nm C.done a=d a
theorem Ct.Qao (n:Nat):(Ct.zero n).is n (λ_=>0) (λ_=>0):=by
 refine⟨Ct.Q9 n,λa b=>?_⟩;show nm (List.replicate n 0) a=0/\nm (List.replicate n 0) a=0;unfold nm;simp[b]
theorem J6.whole {w:World}{g n c:Nat}{l:List Int}(h:J6 w g n c l):∃b:Array Value,w.1[g]?=some (.cells b 3 (0,0))/\b.size=c/\b.toList.take n=l.map cv/\n<=c/\c<=maxLen:=by
 rcases h.2 with⟨e,_⟩|⟨A,cap,b,e,B,u,h1,h2,f,m⟩
 ·injection e with d;cases d
 ·injection e with d y p;injection d with d;injection d with d;subst d;subst p;rw[Nat.mul_one] at f m;exact⟨b,u,f,m,h1,h2⟩
theorem J6.of_whole {w:World}{g n c:Nat}{l:List Int}(cur:Array Value)(hg:w.1[g]?=some (.cells cur 3 (0,0)))(h3:cur.size=c)(h4:cur.toList.take n=l.map cv)(hl:l.length=n)(h1:n<=c)(h2:c<=maxLen):J6 w g n c l:=
 ⟨by rw[List.length_map,hl,Nat.mul_one],.inr ⟨g,c,cur,rfl,Nat.zero_le _,hg,h1,h2,by rw[h3,Nat.mul_one],by rw[Nat.mul_one];exact h4⟩⟩
theorem qhq {w:World}{F:Array Oper}{o:Oper}{a:Act}{K:Act->World->Prop}{Q:Exit->Act->World->Prop}{E:Prop}(B:o.guard=none)(d s:Operand)
  (T:o.op=.call { callee:=.builtin .copy,args:=#[d,s],argTypes:=#[36,36] }) (g n c:Nat) (l:List Int) (U:J6 w g n c l) (hd:a.eval d=.slice (some ⟨g,0,none⟩) n c)
  (A c2:Nat) (p:List Int) (u:J6 w A n c2 p) (W:a.eval s=.slice (some ⟨A,0,none⟩) n c2)
  (I:∀y,J6 y g n c p->(∀k,k≠g->y.1[k]?=w.1[k]?)->(∀S:Nat->Prop,S g->Turn S w y)->K (a.put o.dst (goInt n)) y):if Region.wanted o (yielded F a.tmps)=true then Oper.wp Tryz.prog o a w K Q else E:=by
 rw[if_pos (by simp[Region.wanted,B])];obtain⟨i,O,X,D,Y⟩:=info_parts TN.info;obtain⟨f,H,G,Z,h1,h2⟩:=U.whole;have b:=u.len;have m:=run_copy_row (P:=Tryz.prog) w 36 36 o.type 3 g 0 n c ⟨A,0,none⟩ n c2 f 3 (p.map cv) TN.sl (by rw[O];simp[D]) H (by rw[List.length_map,b];exact (Nat.min_self n).symm) u.cells (by rw[List.length_map,b,G];omega) (qy6 _);rw[List.length_map,b] at m;unfold Oper.wp;simp[execOp,T,resolve,invoke,builtin,hd,W,m,Result.andThen];have M:(w.setRow g (p.map cv++f.toList.drop n).toArray).1[g]?=some (.cells (p.map cv++f.toList.drop n).toArray 3 (0,0)):=setRow_heap w g _ _ 3 _ H;have e:∀k,k≠g->(w.setRow g (p.map cv++f.toList.drop n).toArray).1[k]?=w.1[k]?:=λk R=>setRow_other w g k _ R
 have key:=I (w.setRow g (p.map cv++f.toList.drop n).toArray) (J6.of_whole _ M (by rw[List.size_toArray,List.length_append,List.length_map,List.length_drop,b,Array.length_toList,G];omega) (by rw[List.take_left' (by rw[List.length_map,b])]) b h1 h2) e (λS J=>⟨rfl,rfl,rfl,by simp[World.setRow],λk _ hn=>e k λh=>hn (h▸J)⟩);exact key
theorem q9y {w:World}{p o:Nat}{S:Nat->Prop}{C:Ct}(H:Yt w p o S C) :
  Calls Tryz.prog 54 #[.pointer (some ⟨p,o,none⟩)] w λe u=>e=.returned (.tuple #[])/\Yt u p o S C.commit/\Turn S w u:=by
 obtain⟨g,f,b,d,t,A,h1,⟨G,I,P,Q⟩,h2,M,m,F,O⟩:=H;have c0:w.drew.cell? ⟨p,o,none⟩=some (.slice (some ⟨g,0,none⟩) C.n f):=Rj (w:=w.drew) h1 G;have c1:w.drew.cell? ⟨p,o+1,none⟩=some (.slice (some ⟨b,0,none⟩) C.n d):=Rj (w:=w.drew) h1 I;have D:J6 w.drew g C.n f C.now:=h2;have E:J6 w.drew b C.n d C.done:=M;go_enter Tryz.func54,Tryz.ntmps54
 go_wp2_with fail
 go_region_held3 (λu=>u.cell? ⟨p,o,none⟩=some (.slice (some ⟨g,0,none⟩) C.n f)/\u.cell? ⟨p,o+1,none⟩=some (.slice (some ⟨b,0,none⟩) C.n d))
  (first|assumption|exact⟨c0,c1⟩|exact B)
  (first
   |(refine qhq rfl (.tmp 5) (.tmp 9) rfl b C.n d C.done E rfl g f C.now D rfl ?_;intro J R y K;have B:J.cell? ⟨p,o,none⟩=some (.slice (some ⟨g,0,none⟩) C.n f)/\J.cell? ⟨p,o+1,none⟩=some (.slice (some ⟨b,0,none⟩) C.n d):=⟨(World.cell?_of_block (a:=⟨p,o,none⟩) (y p m.2.2)).trans c0,(World.cell?_of_block (a:=⟨p,o+1,none⟩) (y p m.2.2)).trans c1⟩)
   |fail)
 all_goals (
  go_end0
  refine⟨rfl,⟨g,f,b,d,t,A,(y p m.2.2).trans h1,⟨G,I,P,Q⟩,h2.keep (y g m.1),R,m,F,Ct.D5 O⟩,?_⟩;have T:=K S F.2;exact (Turn.refl S w).drew.then T)
theorem qsq (n:Int)(h:n<32\/2048<n)(w:World) :
  Calls Tryz.prog 49 #[.int .i64 n] w λe b=>e=.returned (.tuple #[.pointer none,.int .i64 1])/\w=b:=by
 by_cases h1:n<32
 ·go_enter Tryz.func49,Tryz.ntmps49
  go_wp2;go_ret2;exact⟨rfl,rfl⟩
 ·have h2:2048<n:=by omega
  go_enter Tryz.func49,Tryz.ntmps49
  go_wp2;go_ret2;exact⟨rfl,rfl⟩
section
attribute [local go_sem ↓] qky
theorem qdu (n:Nat)(h1:32<=n)(h2:n<=2048)(w:World) :
  Calls Tryz.prog 49 #[.int .i64 (n:Int)] w λe F=>∃p,e=.returned (.tuple #[.pointer (some ⟨p,0,none⟩),.int .i64 0])/\Yt F p 0 (λk=>w.1.size<=k) (Ct.zero n)/\w.1.size<=p/\Below w.1.size w F:=by
 have G:¬(n:Int)<32:=by omega
 have H:¬(2048:Int)<(n:Int):=by omega
 have hn:n<=1000000:=by omega
 obtain⟨m,hm⟩:∃m,Qe n=m:=⟨_,rfl⟩;have B:=Lib.hid hm;have b:=Lib.hid (show ((Ct.zero n).first:Int)=2+2*(m:Int) by unfold Ct.first;rw[Ct.Q9,hm];omega);clear hm;have E:=qrc n hn w.drew;have A:=qrc n hn (Ua n w.drew);rw[q3w] at A;have z0:w.drew.1.size=w.1.size:=rfl;rw[z0] at E A;go_enter Tryz.func49,Tryz.ntmps49
 go_wp2_with fail
 refine (qcn (n:Int) n rfl (by omega) m B.out w).mono ?_;rintro e J ⟨rfl,rfl⟩;go_wp2_with fail
 go_region
 all_goals (
  have f:J6 (Ua n (Ua n w.drew)) (w.1.size+1) n n (List.replicate n 0):=by
   have:=qkz n hn (Ua n w.drew);rw[q3w,z0] at this;exact this
  have d:J6 (Ua n (Ua n w.drew)) w.1.size n n (List.replicate n 0):=by
   have h:=qkz n hn w.drew;rw[z0] at h;exact h.keep (heap_alloc_old (Ua n w.drew) _ (by rw[q3w,z0];omega))
  have y:Below w.1.size w (Ua n (Ua n w.drew)):=((Below.refl _ _).drew.trans (qd8 n _ _ (Nat.le_refl _))).trans (qd8 n _ _ (by rw[q3w,z0];omega));have u:(Ua n (Ua n w.drew)).1.size=w.1.size+2:=by rw[q3w,q3w,z0]
  clear E A;generalize Ua n (Ua n w.drew)=W at d f y u ⊢;go_wp2_with fail
  go_ret2;rw[u];refine⟨w.1.size+2,rfl,?_,by omega,y.alloc y.size _⟩;have I:=(Ct.Q9 n).symm;have hF:=b.out;have D:=B.out;first
   |exact⟨w.1.size,n,w.1.size+1,n,_,_,by rw[<-u];exact heap_alloc_new W _,⟨by rw[Ct.Q9];rfl,by rw[Ct.Q9];rfl,by rw[Ct.Q9,D];rfl,by rw[hF];rfl⟩,by rw[Ct.Q9];exact d.keep (heap_alloc_old W _ d.lt),by rw[Ct.Q9];exact f.keep (heap_alloc_old W _ f.lt),⟨by omega,by omega,by omega⟩,⟨by dsimp only;omega,by dsimp only;omega⟩,Ct.Ba h1 h2⟩
   |exact⟨w.1.size+1,n,w.1.size,n,_,_,by rw[<-u];exact heap_alloc_new W _,⟨by rw[Ct.Q9];rfl,by rw[Ct.Q9];rfl,by rw[Ct.Q9,D];rfl,by rw[hF];rfl⟩,by rw[Ct.Q9];exact f.keep (heap_alloc_old W _ f.lt),by rw[Ct.Q9];exact d.keep (heap_alloc_old W _ d.lt),⟨by omega,by omega,by omega⟩,⟨by dsimp only;omega,by dsimp only;omega⟩,Ct.Ba h1 h2⟩
   |fail)
end
theorem Qbd (A:Option Addr)(m k c:Nat)(l:List UInt8)(w:World)(h:Sl w A m c l)(E:m=k+2)(hm:m<=100000)(y:Nat)(B:Q8 (l.take 2)=y) :
  Calls Tryz.prog 149 #[.slice A m c,.int .i64 2] w λe f=>∃b d,e=.returned (.tuple #[.int .i64 (y:Int),.slice b k d,.int .i64 0])/\Below w.1.size w f:=by
 subst B;refine (q6w A m c l 2 w h (by omega) (by omega) (by omega) (by omega)).mono ?_;rintro e f ⟨b,D,d,rfl,own,u⟩;have p:=own.len;rw[List.length_drop,h.len] at p;have:D=k:=by have:(2:Int).toNat=2:=rfl;omega
 subst this;exact⟨b,d,rfl,u⟩
theorem q9z {w w':World}{A:Option Addr}{n c:Nat}{l:List UInt8}(h:Sl w A n c l){S:Nat->Prop}(T:Turn S w w')(f:∀b,A=some b->¬S b.block):Sl w' A n c l:=
 ⟨h.1,h.2.1,h.2.2.1,λj u p=>by
  obtain⟨b,e,d,m⟩:=h.2.2.2 j u p;exact⟨b,e,Nat.lt_of_lt_of_le d T.size,(World.cell?_of_block (a:=b.add j) (by rw[q0n];exact T.block _ d (f b e))).trans m⟩⟩
theorem qlt (C:Ct)(k:Nat)(b:k<C.n)(h:nm C.now k=0):C.put k 0=C:=by
 have e:C.now.set k 0=C.now:=by
  have h1:C.now[k]'b=0:=by
   unfold nm at h;rw[List.getD_eq_getElem?_getD,List.getElem?_eq_getElem b] at h;exact h
  rw[<-h1];exact List.set_getElem_self b
 unfold Ct.put;simp only[e]
theorem qog {w:World}{p:Nat}{S:Nat->Prop}{C:Ct}(H:Yt w p 0 S C)(i:Nat)(hi:i<=1000)(A:Option Addr)(c:Nat)(l:List UInt8)(hs:Sl w A 236 c l)(hA:∀ad,A=some ad->¬S ad.block)(hz:∀a,i*118<=a->a<C.n->nm C.now a=0) :
  Calls Tryz.prog 135 #[.pointer (some ⟨p,0,none⟩),.int .i64 (i:Int),.slice A 236 c] w λe w'=>((e=.returned (.bool true)/\(∀k,k<118->Yy C.n C.first i l k=false)/\Yt w' p 0 S (Yo C.n i l C 118))\/(e=.returned (.bool false)/\∃k,k<118/\Yy C.n C.first i l k=true))/\Turn S w w':=by
 have Hs:=Lib.hid hs;have HA:=Lib.hid hA;have Hz:=Lib.hid hz;have b8:=hs.cap;have a6:=hs.max;unfold maxLen at a6;have d3:=H.ok.1;clear hs hA hz;go_enter Tryz.func135,Tryz.ntmps135
 go_wp2_with fail
 go_loopw [7,8,9,10,11,12] (λ_ _ _ _ _ k wr=>∃t:Nat,t<=118/\k=.int .i64 (t:Int)/\Yt wr p 0 S (Yo C.n i l C t)/\(∀q,q<t->Yy C.n C.first i l q=false)/\Turn S w wr) (λ_ _ _ _ _ k _=>118-(intOf k).toNat)
 case atStart=>exact⟨0,Nat.zero_le _,rfl,H,λq hq=>absurd hq (Nat.not_lt_zero _),Turn.refl _ _⟩
 case round=>
  clear H;obtain⟨t,ht,rfl,R,f,T⟩:=hrel;by_cases b5:t<118
  ·have e3:(t:Int)<118:=by omega
   have e0:(0:Int)<=(t:Int):=by omega
   obtain⟨b,hb⟩:∃b,2*t=b:=⟨_,rfl⟩;have c8:(t:Int)*2=(b:Int):=by omega
   have c9:b<=234:=by omega
   have a7:=q9z Hs.out T HA.out;have Q:=a7.drop (k:=b) (by omega);obtain⟨A2,b4⟩:∃A2,(if c=b then A else Option.map (λx=>x.add b) A)=A2:=⟨_,rfl⟩;rw[b4] at Q;have U:=Q.take (k:=2) (by omega);obtain⟨y,hy⟩:∃y,Q8 (((l.drop b).take 2).take 2)=y:=⟨_,rfl⟩;have hX:=Lib.hid (show F7 l t=(y:Int) by unfold F7;rw[hb,<-hy,List.take_take];rfl);have d4:y<65536:=by
    have h1:=q7g (((l.drop b).take 2).take 2);have h2:(((l.drop b).take 2).take 2).length=2:=by rw[List.length_take,U.len];rfl
    rw[h2,hy] at h1;exact h1
   have Hy:=Lib.hid hy;have b2:=Lib.hid U;have Hb:=Lib.hid hb;have K:=Lib.hid f;have E:(Yo C.n i l C t).n=C.n:=qil _ _ _ _ _;have F:(Yo C.n i l C t).first=C.first:=by unfold Ct.first;rw[E]
   obtain⟨a,ha⟩:∃a,i*118+t=a:=⟨_,rfl⟩;have c7:(i:Int)*118+(t:Int)=(a:Int):=by omega
   have c6:a<=200000:=by omega
   have W:a<C.n->nm (Yo C.n i l C t).now a=0:=λh=>by
    rw[qh3 i l C t a h,if_neg (by omega)];exact Hz.out a (by omega) h
   have B:=Lib.hid (show Yy C.n C.first i l t=decide ((y:Int)≠0/\(a<C.first\/C.n<=a)) by unfold Yy;rw[hX.out,ha]);have d:=Lib.hid (show Yo C.n i l C (t+1)=if a<C.n then (Yo C.n i l C t).put a (y:Int) else Yo C.n i l C t by rw[<-hX.out,<-ha];rfl);have X:=Lib.hid (show (Yy C.n C.first i l t=false)->∀q,q<t+1->Yy C.n C.first i l q=false from λh q hq=>by
    by_cases e:q=t
    ·rw[e];exact h
    ·exact K.out q (by omega))
   obtain⟨u,Z⟩:∃u,Yo C.n i l C t=u:=⟨_,rfl⟩;rw[Z] at R E F W d;have a2:=Lib.hid (show u.counted a=decide (C.first<=a/\a<C.n) by unfold Ct.counted;rw[E,F]);have Y:=Lib.hid E;have b9:=Lib.hid F;have b3:=Lib.hid W;have Ha:=Lib.hid ha;have i1:2<=c-b:=by omega
   have i2:b<=236:=by omega
   have i3:b<=c:=by omega
   clear a7 Q U hy f Z E F W ha hb;go_wp2_with fail
   refine (Qbd A2 2 0 (c-b) _ wr b2.out rfl (by omega) y Hy.out).mono ?_;rintro e w4 ⟨A4,c4,rfl,a1⟩;have R4:=R.below a1;have T4:=T.then (Qv a1 |>.mono (S':=S) λk hk=>hk);clear R T;by_cases b1:y=0
   ·subst b1;have D:=Lib.hid (show Yy C.n C.first i l t=false by rw[B.out];simp);have P:=Lib.hid (show Yo C.n i l C (t+1)=u by
     rw[d.out];split
     ·rename_i h;exact qlt u a (by rw[Y.out];exact h) (b3.out h)
     ·rfl)
    go_wp2;exact⟨⟨t+1,by omega,by go_num,by rw[P.out];exact R4,X.out D.out,T4⟩,by simp[intOf];omega⟩
   ·have d5:((y:Int)==0)=false:=by simpa using b1
    have b7:¬(y:Int)=0:=by omega
    by_cases m:C.first<=a/\a<C.n
    ·have M:=Lib.hid (show u.counted a=true by rw[a2.out];exact decide_eq_true m);have D:=Lib.hid (show Yy C.n C.first i l t=false by rw[B.out];exact decide_eq_false (by omega));have P:=Lib.hid (show Yo C.n i l C (t+1)=u.put a (y:Int) by rw[d.out,if_pos m.2]);have G:a<u.n:=by rw[Y.out];exact m.2
     obtain⟨g,cg,b0,cb,c0,c1,c2,c3,k1,k2,I,O,J⟩:=R4.open_;obtain⟨hc,d2⟩:=I a G;obtain⟨R5,T5,d0,d1⟩:=J a ((y:Nat):Int) G (by omega) (by omega);rw[<-P.out] at R5;have T6:=T4.then T5;have e8:(a:Int)<(u.n:Int):=by omega
     have e9:(0:Int)<=(a:Int):=by omega
     obtain⟨x0,a8⟩:∃x,nm u.now a=x:=⟨_,rfl⟩;rw[a8] at hc;clear a8 I O J c1 c2 c3 m;go_wp2_with fail
     refine (q2e R4 a true M.out).mono ?_;rintro e w5 ⟨rfl,rfl⟩;go_wp2;exact⟨⟨t+1,by omega,by go_num,R5,X.out D.out,T6⟩,by simp[intOf];omega⟩
    ·have M:=Lib.hid (show u.counted a=false by rw[a2.out];exact decide_eq_false m);have D:=Lib.hid (show Yy C.n C.first i l t=true by rw[B.out];exact decide_eq_true ⟨b7,by omega⟩);clear m;go_wp2_with fail
     refine (q2e R4 a false M.out).mono ?_;rintro e w5 ⟨rfl,rfl⟩;go_wp2;go_ret;exact⟨.inr ⟨rfl,t,b5,D.out⟩,T4⟩
  ·have b6:t=118:=by omega
   subst b6;go_wp2;go_ret;exact⟨.inl ⟨rfl,f,R⟩,T⟩
theorem qsr (n:Nat)(b:List (List UInt8))(h1:32<=n)(h2:n<=2048)(A:Option Addr)(m c:Nat){w:World}(H:Parts w A m c b)(hm:m=Qe n) :
  Calls Tryz.prog 98 #[.int .i64 (n:Int),.slice A m c] w λe w'=>(((∀i,i<Qe n->q57 n (2+2*Qe n) i (nth b i))/\∃p,e=.returned (.tuple #[.pointer (some ⟨p,0,none⟩),.int .i64 0])/\Yt w' p 0 (λk=>w.1.size<=k) (Vu n b)/\w.1.size<=p)\/
   ((¬∀i,i<Qe n->q57 n (2+2*Qe n) i (nth b i))/\e=.returned (.tuple #[.pointer none,.int .i64 3])))/\Below w.1.size w w':=by
 obtain⟨many,F⟩:∃k,Qe n=k:=⟨_,rfl⟩;have b9:many<=1000:=by rw[<-F];unfold Qe;omega
 have J:=Lib.hid F;have b2:m=many:=by omega
 subst b2;rw[F];clear hm F;have b8:m<=c:=H.2.1;have b3:c<=maxLen:=H.2.2.1;unfold maxLen at b3;go_enter Tryz.func98,Tryz.ntmps98
 go_wp2_with fail
 refine (qdu n h1 h2 w).mono ?_;rintro e w1 ⟨p,rfl,R,b4,B⟩;have c2:w1.cell? ⟨p,2,none⟩=some (.int .i64 (m:Int)):=by
  obtain⟨_,_,_,_,_,_,c2,_⟩:=R.open_;rw[Ct.Q9,J.out] at c2;exact c2
 have R:=R.shrink;obtain⟨S,hS⟩:∃S:Nat->Prop,(λk=>w.1.size<=k/\k<w1.1.size)=S:=⟨_,rfl⟩;rw[hS] at R;have U:∀k,S k->w.1.size<=k:=λk f=>by rw[<-hS] at f;exact f.1
 clear hS;have u:=Lib.hid U;clear U;go_wp2_with fail
 clear c2;go_loopw [8,9,27] (λ_ _ i wr=>∃j:Nat,j<=m/\i=.int .i64 (j:Int)/\Yt wr p 0 S (Y2 n b j)/\(∀q,q<j->q57 n (2+2*m) q (nth b q))/\Below w.1.size w wr) (λ_ _ i _=>m-(intOf i).toNat)
 case atStart=>exact⟨0,Nat.zero_le _,rfl,R,λq hq=>absurd hq (Nat.not_lt_zero _),B⟩
 case round=>
  clear R B;obtain⟨j,hj,rfl,R,d,B⟩:=hrel;by_cases M:j<m
  ·obtain⟨Q,A1,n1,c1,eA,b0,Y,D⟩:=H.cell M;subst eA;have b7:=(B.cell (p:=Q.add j) (by rw[q0n];exact b0)).trans Y;have O:=D.below B;have e3:(j:Int)<(m:Int):=by omega
   have e0:(0:Int)<=(j:Int):=by omega
   have K:=D.len;obtain⟨l,hl⟩:∃l,nth b j=l:=⟨_,rfl⟩;rw[hl] at D O K;have Hl:=Lib.hid hl;have y:=Lib.hid d;have P:=Lib.hid K;clear hl d Y K;by_cases I:n1=236
   ·subst I;have T:∀Q,A1=some Q->¬S Q.block:=λQ e=>by
     obtain⟨b5,e',hb,_⟩:=D.cell (k:=0) (by omega);rw[e] at e';injection e' with e';subst e';exact λh=>absurd (u.out _ h) (by omega)
    have a7:=Lib.hid T;have a2:=Lib.hid O;clear T O D;have G:(Y2 n b j).n=n:=qb8 _ _ _;have Z:(Y2 n b j).first=2+2*m:=by unfold Ct.first;rw[G,J.out]
    have a6:∀a,j*118<=a->a<(Y2 n b j).n->nm (Y2 n b j).now a=0:=λa b6 W=>by
     rw[G] at W;rw[qb9 n b j a W,if_neg (by omega)]
    have E:Yo n j l (Y2 n b j) 118=Y2 n b (j+1):=by rw[<-Hl.out];rfl
    have f:=qog R j (by omega) A1 c1 l a2.out a7.out a6;rw[G,Z,E] at f;have Hk:=Lib.hid f;clear f G Z a6 E;go_wp2_with fail
    refine Hk.out.mono ?_;rintro e w4 ⟨⟨rfl,hg,R4⟩|⟨rfl,q,hq,hg⟩,T4⟩
    ·have B4:=B.trans (T4.below (λ_ f=>u.out _ f) B.size);have Hg:=Lib.hid hg;clear hg R;go_wp2;refine⟨⟨j+1,by omega,by go_num,R4,λq hq=>?_,B4⟩,by simp[intOf];omega⟩;by_cases e:q=j
     ·rw[e,Hl.out];exact⟨P.out,Hg.out⟩
     ·exact y.out q (by omega)
    ·have B4:=B.trans (T4.below (λ_ f=>u.out _ f) B.size);have a1:¬∀i,i<m->q57 n (2+2*m) i (nth b i):=λhh=>by
      have h3:=(hh j M).2 q hq;rw[Hl.out,hg] at h3
      cases h3
     have a8:=Lib.hid a1;clear a1 hg;go_wp2;go_ret2;exact⟨.inr ⟨a8.out,rfl⟩,B4⟩
   ·have e4:¬(n1:Int)=236:=by omega
    have X:=Lib.hid (show ¬∀i,i<m->q57 n (2+2*m) i (nth b i) from λhh=>I (by have:=(hh j M).1;rw[Hl.out] at this;exact P.out.symm.trans this));have hb:((n1:Int)==236)=false:=by simpa using e4
    go_wp2;go_ret2;exact⟨.inr ⟨X.out,rfl⟩,B⟩
  ·have b1:j=m:=by omega
   subst b1;have y:=Lib.hid d;clear d;go_wp2_with fail
   refine (q9y R).mono ?_;rintro e w5 ⟨rfl,R5,T5⟩;go_wp2;go_ret2;refine⟨.inl ⟨y.out,p,rfl,?_,b4⟩,B.trans (T5.below (λ_ f=>u.out _ f) B.size)⟩;exact (show Vu n b=(Y2 n b j).commit by unfold Vu;rw[J.out])▸R5.mono λk f=>u.out k f
theorem qoh (n:Int)(h:n<32\/2048<n)(A:Option Addr)(m c:Nat)(w:World) :
  Calls Tryz.prog 98 #[.int .i64 n,.slice A m c] w λe b=>e=.returned (.tuple #[.pointer none,.int .i64 1])/\w=b:=by
 have H:=Lib.hid h;clear h;go_enter Tryz.func98,Tryz.ntmps98
 go_wp2_with fail
 refine (qsq n H.out w).mono ?_;rintro e d ⟨rfl,rfl⟩;go_wp2;go_ret2;exact⟨rfl,rfl⟩
theorem qlu (n:Nat)(h1:32<=n)(h2:n<=2048)(A:Option Addr)(m c:Nat)(w:World)(hm:m≠Qe n) :
  Calls Tryz.prog 98 #[.int .i64 (n:Int),.slice A m c] w λe u=>e=.returned (.tuple #[.pointer none,.int .i64 3])/\Below w.1.size w u:=by
 obtain⟨k,b⟩:∃k,Qe n=k:=⟨_,rfl⟩;rw[b] at hm;have d:=Lib.hid b;have f:¬(m:Int)=(k:Int):=by omega
 have D:((m:Int)==(k:Int))=false:=by simpa using f
 clear b;go_enter Tryz.func98,Tryz.ntmps98
 go_wp2_with fail
 refine (qdu n h1 h2 w).mono ?_;rintro e y ⟨p,rfl,R,_,B⟩;have c2:y.cell? ⟨p,2,none⟩=some (.int .i64 (k:Int)):=by
  obtain⟨_,_,_,_,_,_,c2,_⟩:=R.open_;rw[Ct.Q9,d.out] at c2;exact c2
 go_wp2;go_ret2;exact⟨rfl,B⟩
theorem qoi (n:Int)(b:List (List UInt8))(A:Option Addr)(m c:Nat){w:World}(H:Parts w A m c b) :
  Calls Tryz.prog 98 #[.int .i64 n,.slice A m c] w λe f=>((Xf n b=0/\∃p,e=.returned (.tuple #[.pointer (some ⟨p,0,none⟩),.int .i64 0])/\Yt f p 0 (λk=>w.1.size<=k) (Vu n.toNat b)/\w.1.size<=p)\/
   (Xf n b≠0/\e=.returned (.tuple #[.pointer none,.int .i64 (Xf n b)])))/\Below w.1.size w f:=by
 by_cases hn:32<=n/\n<=2048
 ·obtain⟨k,rfl⟩:=Int.eq_ofNat_of_zero_le (show 0<=n by omega);by_cases hm:m=Qe k
  ·refine (qsr k b (by omega) (by omega) A m c H hm).mono ?_;have D:b.length=Qe k:=H.len.trans hm;rintro e f ⟨⟨u,p,rfl,R,y⟩|⟨u,rfl⟩,B⟩
   ·have d:Xf (k:Int) b=0:=by unfold Xf;rw[Int.toNat_natCast,if_neg (λh=>h hn),if_neg (λh=>h.elim (λh=>h D) (λh=>h u))]
    exact⟨.inl ⟨d,p,rfl,R,y⟩,B⟩
   ·have d:Xf (k:Int) b=3:=by unfold Xf;rw[Int.toNat_natCast,if_neg (λh=>h hn),if_pos (.inr u)]
    rw[d];exact⟨.inr ⟨by omega,rfl⟩,B⟩
  ·refine (qlu k (by omega) (by omega) A m c w hm).mono ?_;rintro e f ⟨rfl,B⟩;have d:Xf (k:Int) b=3:=by unfold Xf;rw[Int.toNat_natCast,if_neg (λh=>h hn),if_pos (.inl (by rw[H.len];exact hm))]
   rw[d];exact⟨.inr ⟨by omega,rfl⟩,B⟩
 ·refine (qoh n (by omega) A m c w).mono ?_;rintro e f ⟨rfl,rfl⟩;have d:Xf n b=1:=by unfold Xf;rw[if_pos hn]
  rw[d];exact⟨.inr ⟨by omega,rfl⟩,Below.refl _ _⟩
theorem S9 {w:World}{g n c:Nat}{l:List Int}(H:J6 w g n c l)(h0:0<n)(h1:n<=1000000) :
  Calls Tryz.prog 99 #[.slice (some ⟨g,0,none⟩) n c] w λe y=>∃f u,e=.returned (.slice (some ⟨f,0,none⟩) n u)/\w.1.size<=f/\J6 y f n u l/\Below w.1.size w y:=by
 have d:Below w.1.size w (w.alloc (.cells #[] 3)):=Qm;have p:J6 (w.alloc (.cells #[] 3)) g n c l:=H.keep (d.block g H.lt);have A:(w.alloc (.cells #[] 3)).1.size=w.1.size+1:=by simp
 have B:(binOp .eql 36 (.slice (some ⟨g,0,none⟩) n c) (.slice none 0 0)).run Tryz.prog w=.ok (.bool false) w:=Lib.run_eql_slice_nil w _ 3 _ n c 0 0 TN.sl;go_enter Tryz.func99,Tryz.ntmps99
 go_wp2_with (first
  |(at_builtin;refine Nr _ TN rfl _ _ rfl w.1.size rfl ⟨g,0,none⟩ n c rfl l p.len p.cells h0 h1 ?_;intro c3 D b m)
  |fail)
 go_ret;rw[A] at b;exact⟨_,_,rfl,by omega,qr6 b (Nat.zero_le _),d.trans (m.mono d.size)⟩
theorem Qc2 {w:World}{p o:Nat}{S:Nat->Prop}{C:Ct}(H:Yt w p o S C) :
  Calls Tryz.prog 59 #[.pointer (some ⟨p,o,none⟩)] w λe w'=>∃q,e=.returned (.pointer (some ⟨q,0,none⟩))/\Yt w' q 0 (λk=>w.1.size<=k) C/\w.1.size<=q/\Below w.1.size w w':=by
 have b1:=H.ok.1;have Y:=H.lt;obtain⟨g,m,b,f,t,J,h1,⟨o0,o1,o2,o3⟩,h2,U,h4,h5,h6⟩:=H;have c0:w.cell? ⟨p,o,none⟩=some (.slice (some ⟨g,0,none⟩) C.n m):=Rj h1 o0;have c1:w.cell? ⟨p,o+1,none⟩=some (.slice (some ⟨b,0,none⟩) C.n f):=Rj h1 o1;have c2:w.cell? ⟨p,o+2,none⟩=some (.int .i64 (Qe C.n:Int)):=Rj h1 o2;have c3:w.cell? ⟨p,o+3,none⟩=some (.int .i64 (C.first:Int)):=Rj h1 o3;go_enter Tryz.func59,Tryz.ntmps59
 go_wp2_with fail
 clear c0 c1 c2 c3;have K:=heap_alloc_new w (.cells #[.slice (some ⟨g,0,none⟩) C.n m,.slice (some ⟨b,0,none⟩) C.n f,.int .i64 (Qe C.n:Int),.int .i64 (C.first:Int)] 100);have E:Below w.1.size w (w.alloc (.cells #[.slice (some ⟨g,0,none⟩) C.n m,.slice (some ⟨b,0,none⟩) C.n f,.int .i64 (Qe C.n:Int),.int .i64 (C.first:Int)] 100)):=Qm;have O:(w.alloc (.cells #[.slice (some ⟨g,0,none⟩) C.n m,.slice (some ⟨b,0,none⟩) C.n f,.int .i64 (Qe C.n:Int),.int .i64 (C.first:Int)] 100)).1.size=w.1.size+1:=by simp
 generalize w.alloc (.cells #[.slice (some ⟨g,0,none⟩) C.n m,.slice (some ⟨b,0,none⟩) C.n f,.int .i64 (Qe C.n:Int),.int .i64 (C.first:Int)] 100)=u at K E O ⊢;have n1:J6 u.drew g C.n m C.now:=h2.keep (E.block g h2.lt);have n2:J6 u.drew b C.n f C.done:=U.keep (E.block b U.lt);have p1:u.drew.1[p]?=some (.cells J t (0,0)):=(E.block p Y).trans h1;have c0:u.drew.cell? ⟨p,o,none⟩=some (.slice (some ⟨g,0,none⟩) C.n m):=Rj p1 o0;have c1:u.drew.cell? ⟨p,o+1,none⟩=some (.slice (some ⟨b,0,none⟩) C.n f):=Rj p1 o1;have P:u.drew.1.size=w.1.size+1:=O;have b2:=h4.2.1;generalize hQ:w.1.size=q at K O P Y;have M:u.drew.1[q]?=some (.cells #[.slice (some ⟨g,0,none⟩) C.n m,.slice (some ⟨b,0,none⟩) C.n f,.int .i64 (Qe C.n:Int),.int .i64 (C.first:Int)] 100 (0,0)):=K;go_region_with (first
  |(go_at_call 99;have hh:=A;refine (S9 (n2.keep (A.block b n2.lt)) (by omega) (by omega)).mono ?_;rintro e y ⟨G,B,rfl,a8,m2,F⟩;have Q:=(F.block q (by have:=A.size;omega)).trans q3;have f40:y.frozen? ⟨q,0,none⟩=false:=(by unfold World.frozen?;rw[Q];simp);have a2:y.cell? ⟨q,0,none⟩=some (.slice (some ⟨g,0,none⟩) C.n m):=(by rw[cell_of_row _ _ _ _ _ _ Q];rfl);have R:=heap_setCell_same y q 0 _ 100 (.slice (some ⟨D,0,none⟩) C.n d) Q;have a7:(y.setCell ⟨q,0,none⟩ (.slice (some ⟨D,0,none⟩) C.n d)).frozen? ⟨q,1,none⟩=false:=(by unfold World.frozen?;rw[R];simp);have a6:(y.setCell ⟨q,0,none⟩ (.slice (some ⟨D,0,none⟩) C.n d)).cell? ⟨q,1,none⟩=some (.slice (some ⟨b,0,none⟩) C.n f):=(by rw[cell_of_row _ _ _ _ _ _ R];rfl))
  |(go_at_call 99;refine (S9 n1 (by omega) (by omega)).mono ?_;rintro e w3 ⟨D,d,rfl,b0,Z,A⟩;have q3:=(A.block q (by omega)).trans M;have a1:=(A.cell (p:=⟨p,o+1,none⟩) (by show p<_;omega)).trans c1)
  |fail)
 all_goals (
  go_wp2_with fail
  go_ret;have q6:=heap_setCell_same _ q 1 _ 100 (.slice (some ⟨G,0,none⟩) C.n B) R;have T:∀j,j≠q->((y.setCell ⟨q,0,none⟩ (.slice (some ⟨D,0,none⟩) C.n d)).setCell ⟨q,1,none⟩ (.slice (some ⟨G,0,none⟩) C.n B)).1[j]?=y.1[j]?:=λj W=>(Below.heap_setCell _ _ _ _ (by show j≠q;exact W)).trans (Below.heap_setCell _ _ _ _ (by show j≠q;exact W))
  have z3:=A.size;have z4:=F.size;have l1:=Z.lt;have l2:=m2.lt;have b3:q<y.1.size:=by omega
  refine⟨q,rfl,⟨D,d,G,B,_,_,q6,⟨rfl,rfl,rfl,rfl⟩,?_,m2.keep (T G (by omega)),⟨by omega,by omega,by omega⟩,⟨by omega,by omega⟩,h6⟩,by omega,?_⟩
  ·exact (Z.keep (F.block D l1)).keep (T D (by omega))
  ·have I:Below w.1.size w y:=E.trans ((((Below.refl u.1.size u).drew.trans A).mono (by omega)).trans (F.mono (by omega)));exact ((Qv I).then ((Ez (S:=λk=>k=q) (a:=⟨q,0,none⟩) _ rfl).then (Ez (a:=⟨q,1,none⟩) _ rfl) |>.mono λk X=>X)).below (λk X=>by omega) (Nat.le_refl _))
theorem Qbc (x:Int)(w:World) :
  Calls Tryz.prog 126 #[.slice none 0 0,.int .i64 x,.int .i64 2] w λe f=>∃b d,e=.returned (.slice b 2 d)/\Sl f b 2 d (Zc x 2)/\Below w.1.size w f:=by
 have m:=q9l none 0 0 [] x 2 w (q24 w) (by omega);rw[show Ce [] x 2=Zc x 2 from rfl] at m;refine m.mono ?_;rintro e f ⟨b,y,d,rfl,own,u⟩;have p:=own.len;rw[Yl] at p;subst p;exact⟨b,d,rfl,own.sl,u⟩
theorem qfq {w:World}{p o:Nat}{S:Nat->Prop}{C:Ct}(H:Yt w p o S C)(i:Int) :
  Calls Tryz.prog 86 #[.pointer (some ⟨p,o,none⟩),.int .i64 i] w λe Z=>∃A n c,e=.returned (.slice A n c)/\Sl Z A n c (C.body i)/\Below w.1.size w Z/\∀B,A=some B->w.1.size<=B.block:=by
 obtain⟨many,hm⟩:∃m,Qe C.n=m:=⟨_,rfl⟩;have a6:=H.ok.1;have a2:many<=1000:=by rw[<-hm];unfold Qe;omega
 obtain⟨g,cg,b,cb,c0,c1,c2,c3,k1,k2,J,y,K⟩:=H.open_;clear J y K c1 c0 c3 k1 k2;rw[hm] at c2;have Y:=Lib.hid hm;clear hm;by_cases T:0<=i/\i<(many:Int)
 ·have d:=Lib.hid (show C.body i=C.Zz (i*118) 118 by unfold Ct.body;rw[Y.out,if_pos T]);obtain⟨q,rfl⟩:=Int.eq_ofNat_of_zero_le T.1;have e1:¬(q:Int)<0:=by omega
  have e2:¬(many:Int)<=(q:Int):=by omega
  have hq:q<many:=by omega
  have d1:decide ((q:Int)<0)=false:=by simp
  have d2:decide ((many:Int)<=(q:Int))=false:=by simp;omega
  have d3:decide (many<=q)=false:=by simp;omega
  go_enter Tryz.func86,Tryz.ntmps86
  go_wp2_with (first
   |(at_make;refine qf2 _ Gy rfl _ _ rfl _ _ 236 rfl rfl (by omega) ?_)
   |fail)
  intro w1 Ic G;go_wp2_with fail
  go_loopw [5,6,18] (λb _ k wr=>∃(j:Nat) (O:Option Addr) (P:Nat),j<=118/\k=.int .i64 (j:Int)/\b=.slice O (2*j) P/\Own wr w.1.size 5 O (2*j) P (C.Zz ((q:Int)*118) j)/\Below w.1.size w wr) (λ_ _ k _=>118-(intOf k).toNat)
  case atStart=>exact⟨0,_,_,by omega,rfl,rfl,Ic,G⟩
  case round=>
   clear Ic G;obtain⟨j,O,P,hj,rfl,rfl,own,Q⟩:=hrel;by_cases a1:j<118
   ·have Hr:=H.below Q;have e3:(j:Int)<118:=by omega
    obtain⟨x,W⟩:∃x,C.get ((q:Int)*118+(j:Int))=x:=⟨_,rfl⟩;have u:=Lib.hid (show C.Zz ((q:Int)*118) (j+1)=C.Zz ((q:Int)*118) j++Zc x 2 by rw[<-W];rfl);have Hx:=Lib.hid W;clear W c2;go_wp2_with fail
    refine (q2p Hr _ x Hx.out).mono ?_;rintro e w3 ⟨rfl,rfl⟩;go_wp2_with fail
    refine (Qbc x wr).mono ?_;rintro e w4 ⟨A4,c4,rfl,X,I⟩;have M:=own.below I;have F:=Q.trans (I.mono Q.size);go_wp2_with (at_builtin;refine q9j _ Gy rfl _ _ rfl w.1.size O (2*j) P _ rfl M A4 2 c4 _ rfl X (by omega) F.size ?_)
    intro A5 c5 w5 f R;rw[<-u.out] at f;go_wp2;exact⟨⟨j+1,A5,c5,by omega,by go_num,rfl,f,F.trans R⟩,by simp[intOf];omega⟩
   ·have U:j=118:=by omega
    subst U;have E:=own.sl;have D:=λB e=>(own.block B e).1
    go_wp2;go_ret;rw[d.out];exact⟨_,_,_,rfl,E,Q,D⟩
 ·have d:=Lib.hid (show C.body i=[] by unfold Ct.body;rw[Y.out,if_neg T]);by_cases h0:i<0
  ·go_enter Tryz.func86,Tryz.ntmps86
   go_wp2;go_ret;rw[d.out];exact⟨_,_,_,rfl,q24 _,Below.refl _ _,λB e=>by cases e⟩
  ·have e2:(many:Int)<=i:=by omega
   have e1:¬i<0:=h0;go_enter Tryz.func86,Tryz.ntmps86
   go_wp2;go_ret;rw[d.out];exact⟨_,_,_,rfl,q24 _,Below.refl _ _,λB e=>by cases e⟩
