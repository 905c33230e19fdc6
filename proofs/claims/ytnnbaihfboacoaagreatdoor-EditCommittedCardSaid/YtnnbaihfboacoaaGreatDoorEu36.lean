/- A row of items behind a Put or a Delete, split at the leaf that is changed -/
import Derived.Test.YtnnbaihfboacoaaGreatDoorEu35
import Derived.Test.YtnnbaihfboacoaaGreatDoorFrCf
namespace Go.Proofs.YtnnbaihfboacoaaGreatDoor
open Go Go.RowKit Go.Proofs
set_option maxHeartbeats 16000000
set_option maxRecDepth 100000
def Jv (k:Kd)(l:List Qc):List Qc:=l.filter λx=>!(x.k.same k)
theorem qwo {a b:Kd}(h:a.same b=true):a=b:=by
 obtain⟨h1,h2,d⟩:=(Kd.same_iff a b).1 h
 cases a;cases b;simp only at h1 h2 d;subst h1;subst h2;subst d;rfl
theorem qkf {k:Kd}{v:List UInt8}:∀{B C:List Qc},(∀x∈C,k.less x.k=true)->Qd (B++C)->Zo k v false (B++C)=Zo k v false B++C
 |[],C,hC,hr=>by
  cases C with
  |nil=>simp
  |cons c r=>
   rw[List.nil_append] at hr ⊢;rw[q1p hr,if_pos (hC c (List.mem_cons_self ..))];rfl
 |b::B,C,hC,hr=>by
  have d:=(Nc hr).1;rw[List.cons_append] at hr ⊢;rw[q1p hr,q1p d];split
  ·rfl
  ·split
   ·rfl
   ·rw[qkf hC (List.pairwise_cons.1 hr).2];rfl
theorem qq6 {k:Kd}{v:List UInt8}{B C:List Qc}:∀{A:List Qc},(∀x∈A,x.k.less k=true)->(∀x∈C,k.less x.k=true)->Qd (A++(B++C))->Zo k v false (A++(B++C))=A++(Zo k v false B++C)
 |[],_,hC,hr=>qkf hC hr
 |a::A,hA,hC,hr=>by
  rw[List.cons_append] at hr ⊢;have h1:=hA a (List.mem_cons_self ..);rw[q1p hr,if_neg (by rw[q6k h1];decide),if_neg (by rw[(Iq h1).1];decide),qq6 (λx b=>hA x (List.mem_cons_of_mem _ b)) hC (List.pairwise_cons.1 hr).2];rfl
theorem qgf (x:Qc)(r:List Qc)(k:Kd):lead ((x::r).map (·.k)) k=if x.k.less k=true then lead (r.map (·.k)) k+1 else 0:=by
 unfold lead;rw[List.map_cons,List.takeWhile_cons];split<;>simp
theorem qcr (x:Qc)(r:List Qc)(k:Kd)(i:Nat):Vb ((x::r).map (·.k)) k (i+1)=Vb (r.map (·.k)) k i:=by
 unfold Vb keyAt;rw[List.map_cons,List.length_cons,List.getD_cons_succ];congr 1
 exact decide_eq_decide.2 ⟨λh=>Nat.lt_of_succ_lt_succ h,λh=>Nat.succ_lt_succ h⟩
theorem q7z (x:Qc)(r:List Qc)(k:Kd):Vb ((x::r).map (·.k)) k 0=x.k.same k:=by
 unfold Vb keyAt;rw[List.map_cons,List.length_cons,List.getD_cons_zero,decide_eq_true (Nat.succ_pos _),Bool.true_and]
theorem qkg {k:Kd}{v:List UInt8}:∀{B:List Qc},Qd B->Zo k v false B=B.take (lead (B.map (·.k)) k)++(⟨k,v⟩::B.drop (lead (B.map (·.k)) k+if Vb (B.map (·.k)) k (lead (B.map (·.k)) k)=true then 1 else 0))
 |[],_=>by
  have e:lead (([]:List Qc).map (·.k)) k=0:=rfl;rw[e];simp[Zo]
 |x::r,hr=>by
  rw[q1p hr,qgf];by_cases h1:k.less x.k=true
  ·rw[if_pos h1,if_neg (by rw[q6k h1];decide),q7z,if_neg (by rw[(Iq h1).2];decide)];rfl
  ·rw[if_neg h1];by_cases h2:x.k.same k=true
   ·have b:x.k.less k=false:=by rw[q6j h2];exact q38 _
    rw[if_pos h2,if_neg (by rw[b];decide),q7z,if_pos h2];rfl
   ·rw[if_neg h2];have b:x.k.less k=true:=by
     rcases Kd.total x.k k with h|h|h
     ·exact h.1
     ·exact absurd h.2.1 h1
     ·exact absurd (by rw[h.2.2];exact qwu _) h2
    rw[if_pos b,qcr,qkg (List.pairwise_cons.1 hr).2,List.take_succ_cons,Nat.add_right_comm,List.drop_succ_cons];rfl
theorem qek {k:Kd}{l:List Qc}(h:∀x∈l,x.k.same k=false):Jv k l=l:=List.filter_eq_self.2 λx b=>by rw[h x b];rfl
theorem qwp {k:Kd}{A B C:List Qc}(f:∀x∈A,x.k.less k=true)(m:∀x∈C,k.less x.k=true):Jv k (A++(B++C))=A++(Jv k B++C):=by
 have d:Jv k A=A:=qek λx b=>(Iq (f x b)).1
 have e:Jv k C=C:=qek λx b=>(Iq (m x b)).2
 unfold Jv at d e ⊢;rw[List.filter_append,List.filter_append,d,e]
theorem qkh {k:Kd}:∀{B:List Qc},Qd B->Vb (B.map (·.k)) k (lead (B.map (·.k)) k)=true->Jv k B=B.take (lead (B.map (·.k)) k)++B.drop (lead (B.map (·.k)) k+1)/\lead (B.map (·.k)) k<B.length
 |[],_,h=>by cases h
 |x::r,hr,h=>by
  obtain⟨f,d⟩:=List.pairwise_cons.1 hr;rw[qgf] at h ⊢;by_cases b:x.k.less k=true
  ·rw[if_pos b] at h ⊢;rw[qcr] at h;obtain⟨e,p⟩:=qkh d h;refine⟨?_,by rw[List.length_cons];omega⟩;rw[List.take_succ_cons,List.drop_succ_cons];unfold Jv at e ⊢;rw[List.filter_cons_of_pos (by rw[(Iq b).1];rfl),e];rfl
  ·rw[if_neg b] at h ⊢;rw[q7z] at h;refine⟨?_,by rw[List.length_cons];omega⟩;unfold Jv;rw[List.filter_cons_of_neg (by rw[h];decide)];show Jv k r=_;rw[qek]
   ·rfl
   ·intro y m;have:k=x.k:=(qwo h).symm;rw[this];exact (Iq (f y m)).2
theorem qq7 {k:Kd}{l:List Qc}(h:Qd l):Qd (Jv k l):=List.Pairwise.filter _ h
theorem qwq {k:Kd}{l:List Qc}{x:Qc}(h:x∈Jv k l):x∈l:=(List.mem_filter.1 h).1
theorem qq8 (k:Kd)(l:List Qc):(Jv k l).length<=l.length:=List.length_filter_le _ _
theorem qq9 {l:List Qc}(d:Qd l)(k:Kd):Vb (l.map (·.k)) k (lead (l.map (·.k)) k)=true↔∃x∈l,x.k.same k=true:=by
 constructor
 ·intro h;unfold Vb at h;rw[Bool.and_eq_true] at h;obtain⟨h1,h2⟩:=h;have h1:=of_decide_eq_true h1;rw[List.length_map] at h1;rw[q18 l h1] at h2;have e:Qj l (lead (l.map (·.k)) k)=l[lead (l.map (·.k)) k]:=by unfold Qj;rw[List.getD_eq_getElem?_getD,List.getElem?_eq_getElem h1];rfl
  exact⟨_,by rw[e];exact List.getElem_mem h1,h2⟩
 ·rintro⟨x,m,f⟩
  cases b:Vb (l.map (·.k)) k (lead (l.map (·.k)) k) with
  |true=>rfl
  |false=>
   have h:=qjg d k;rw[b,if_neg (by decide)] at h;unfold valOf at h;have h2:=List.find?_eq_none.1 (Option.map_eq_none_iff.1 h) x m;exact absurd f h2
section
variable {D:DM}{S0:Sp}{C0:Ct}{H0:List Int}{P:Pl}{root:Int}
theorem qgg {_k:Kd}{row:List Qc}{n:Nat}{O:List Int}{up:List Qu}{s:Qu}{B X:List Int}{L Rr its:List Qc}(u:At D S0 C0 B X H0 P 0 s up L Rr (its.map λx=>[x]))(_:s.N=⟨0,its,[]⟩)(J:Since D O B H0 P P 0)(hn:up.length<=n)(a1:n<=7)
  {i j:Nat} (hi:i<=j) (hj:j<=its.length) {new:List Qc} (Z:new.length<=1) (W:j<=i+1) (d:L++((its.take i++(new++its.drop j))++Rr)=row) (I:Qd row) (Y:∀x∈row,Ze x) (E:row.length<=1000) (Q:H0.length<=10000) (f:∀x∈its,Ko x=none) :
  Yf D S0 C0 O H0 P row (2*n+3) (Wj D up P s i j ⟨0,new,[]⟩):=by
 have K:=u.Fp;have e:Yr (P.hide D B) 0 ⟨0,new,[]⟩ (new.map λx=>[x]):=⟨new,rfl,rfl⟩;have p:((its.map λx=>[x]).take i++((new.map λx=>[x])++(its.map λx=>[x]).drop j)).flatten=its.take i++(new++its.drop j):=by
  rw[<-List.map_take,<-List.map_drop,List.flatten_append,List.flatten_append,Ig,Ig,Ig]
 have T:∀x∈new,Ko x=none:=λx m=>(Y x (by rw[<-d];simp[m])).2.2
 have A:=qah K (i:=i) (j:=j) hi (by rw[List.length_map];exact hj);have b:∀{N:Nd} {M:List (List Qc)},Yr (P.hide D B) 0 N M->(∀x∈M.flatten,Ko x=none)->N.named=[]:=λ{N M} h1 h2=>by
  rw[(O7 h1 h2).1];obtain⟨q,rfl,_⟩:=h1;rfl
 have y:((its.map λx=>[x]).take i++((new.map λx=>[x])++(its.map λx=>[x]).drop j)).length=i+new.length+(its.length-j):=by
  simp only[List.length_append,List.length_take,List.length_drop,List.length_map];omega
 have G:Qq ((0:Nat):Int)=6:=rfl;have F:Qr ((0:Nat):Int)=3:=rfl;have U:its.length<=6:=by
  have:=(qk8 K u.may).1;rw[List.length_map,G] at this;exact this
 have hE:Ei D S0 C0 B X H0 P 0 s up L Rr i j ⟨0,new,[]⟩ ((its.map λx=>[x]).take i) (new.map λx=>[x]) ((its.map λx=>[x]).drop j):=by
  refine⟨u.keep,u.spot,u.way,A,e,λ_ _=>?_,λa h1 h2=>?_,u.opens,by rw[p,d];exact I,by rw[p,d];exact Y,by rw[p,d];exact E,Q,by rw[y,G];omega,λhu=>?_,λh=>by omega,by omega⟩
  ·refine b (q69 K i j) λx m=>f x ?_
   have:=qk5 m;rw[Ig] at this;exact this
  ·have e1:(Zx s i j).named=[]:=b (q94 A) λx m=>f x (by
    rw[List.flatten_append] at m;rw[<-Ig its];rcases List.mem_append.1 m with h|h
    ·obtain⟨r,I,m⟩:=List.mem_flatten.1 h;exact List.mem_flatten.2 ⟨r,List.mem_of_mem_take I,m⟩
    ·obtain⟨r,I,m⟩:=List.mem_flatten.1 h;exact List.mem_flatten.2 ⟨r,List.mem_of_mem_drop I,m⟩)
   have e2:(⟨0,new,[]⟩:Nd).named=[]:=b e (by rw[Ig];exact T);have e3:s.N.named=[]:=b K (by rw[Ig];exact f);rw[u.held a h1 h2,e1,e2,e3];simp
  ·have h1:=u.enough hu;rw[List.length_map,F] at h1;rw[y,F];omega
 have:=qaq up hE;rw[p,d] at this;exact (Yf.since J this).more (by omega)
theorem q6x {its:List Qc}{k:Kd}:(⟨0,its,[]⟩:Nd).Za k=lead (its.map (·.k)) k:=by
 unfold Nd.Za;rw[if_pos rfl,q1u]
theorem qki (K:Keep D S0 C0 [] ((if root=0 then [] else [root])++H0) P){its:List Qc}(J:Zb (P.hide D []) root its)(Q:Qd its)(d:∀x∈its,Ko x=none)(b:root≠0)(k:Kd):Sj D S0 C0 [] H0 P k its 6 (P.way D root k)/\P.Zh D root=0:=by
 rcases J with⟨_,h⟩|⟨l,hl,u,h1,h2⟩
 ·exact absurd h b
 ·rw[if_neg b] at K;obtain⟨ho,M,n,hn,O,h0⟩:=q32 (Fq u).2.2;have p:P.Zh D root=0:=M;refine⟨?_,p⟩;unfold Pl.way;rw[if_neg b,if_pos p];have f:Y1 P D [] l (P.spot D root false) [] [] []:=⟨rfl,rfl⟩;have T:=qke (H0:=H0) k l 8 (hd:=false) (by omega) K u d Q f (λ_ _ _=>rfl) (λy U=>by cases U) (λh=>absurd rfl h) (λx m=>by cases m) (λx m=>by cases m);obtain⟨up,s,G,F,L,I,e,A,B,W,X,Y,E,Z,i6,i7⟩:=T.is;rw[List.nil_append,List.append_nil] at E;exact⟨⟨up,s,G,F,L,I,e,A,B,W,X,Y,E,Z,by rw[List.length_nil] at i6;omega,i7⟩⟩
theorem qtw (K:Keep D S0 C0 [] ((if root=0 then [] else [root])++H0) P){its:List Qc}(Q:Zb (P.hide D []) root its)(p:Qd its)(u:∀x∈its,Ze x){k:Kd}{v:List UInt8}(f:Ze ⟨k,v⟩)(U:its.length<1000)(m:H0.length<=10000) :
  Yf D S0 C0 [] H0 P (Zo k v false its) 17 (P.O6 D root ⟨k,v⟩):=by
 have F:∀x∈Zo k v false its,Ze x:=λx J=>by
  rcases q41 p x J with rfl|h
  ·exact f
  ·exact u x h
 have a2:=q5f (k:=k) (v:=v) p;have I:=q25 (k:=k) (v:=v) p;unfold Pl.O6;by_cases d:root=0
 ·rcases Q with⟨rfl,_⟩|⟨l,_,_,h1,_⟩
  ·have ew:P.way D root k=some ([],q46):=if_pos d;rw[ew];dsimp only;have es:q46.N.Za k=0:=rfl;have Y:Vb q46.N.keys k 0=false:=rfl;rw[es,Y,if_neg (by decide)];rw[if_pos d,List.nil_append] at K;have T:Yr (P.hide D []) 0 q46.N []:=⟨[],rfl,rfl⟩;have hE:Ei D S0 C0 [] H0 H0 P 0 q46 [] [] [] 0 0 ⟨0,[⟨k,v⟩],[]⟩ [] [[⟨k,v⟩]] []:=by
    refine⟨K,⟨λ_ h=>(by cases h),λh=>(by cases h)⟩,⟨rfl,rfl⟩,⟨T,T,rfl,rfl,rfl,Nat.le_refl _⟩,⟨[⟨k,v⟩],rfl,rfl⟩,λh=>(by cases h),λa _ _=>?_,λy hy=>(by cases hy),?_,?_,by simp,m,Nat.le_add_left 1 _,λh=>absurd rfl h,λh=>(by omega),by simp⟩
    ·have X:(⟨0,[⟨k,v⟩],[]⟩:Nd).named=[]:=by
      unfold Nd.named;rw[List.filterMap_cons_none f.2.2];rfl
     rw[X];rfl
    ·exact List.pairwise_singleton _ _
    ·intro x h;have:x=⟨k,v⟩:=by simpa using h
     rw[this];exact f
   have:=qaq [] hE;exact this.more (by decide)
  ·omega
 ·obtain⟨hw,_⟩:=qki K Q p (λx f=>(u x f).2.2) d k;obtain⟨up,s,O',H',L,Rr,b,A,B,i1,i2,W,O,i5,i6,rfl,rfl,i9,M⟩:=hw.is;rw[i1];dsimp only;have e:=p;rw[O] at e;have G:=(Nc (Nc e).2).1;have Z:(⟨0,b,[]⟩:Nd).keys=b.map (·.k):=q1u b;rw[W,q6x,Z];have a1:lead (b.map (·.k)) k<=b.length:=by have:=qb2 (b.map (·.k)) k;rw[List.length_map] at this;exact this
  have E:Vb (b.map (·.k)) k (lead (b.map (·.k)) k)=true->lead (b.map (·.k)) k<b.length:=λh=>by
   unfold Vb at h;rw[Bool.and_eq_true] at h;have:=of_decide_eq_true h.1;rw[List.length_map] at this;exact this
  refine (qgg (_k:=k) (n:=6) i2 W i5 i6 (by omega) (by split<;>omega) (by
   split
   ·rename_i h;have:=E h;omega
   ·omega) (new:=[⟨k,v⟩]) (by simp) (by split<;>omega) ?_ I F (by omega) m λx f=>(u x (by rw[O];simp[f])).2.2).more (by omega)
  rw[O,qq6 i9 M e,qkg G];rfl
theorem qkj (K:Keep D S0 C0 [] ((if root=0 then [] else [root])++H0) P){its:List Qc}(W:Zb (P.hide D []) root its)(J:Qd its)(G:∀x∈its,Ze x)(I:root≠0)(k:Kd)(O:its.length<1000)(F:H0.length<=10000) :
  ∃up s,P.way D root k=some (up,s)/\s.N.lvl=0/\(Vb s.N.keys k (s.N.Za k)=true↔∃x∈its,x.k.same k=true)/\(Vb s.N.keys k (s.N.Za k)=true->Yf D S0 C0 [] H0 P (Jv k its) 17 (P.Oq D root k)):=by
 obtain⟨Y,_⟩:=qki K W J (λx d=>(G x d).2.2) I k;obtain⟨up,s,O',H',L,Rr,b,A,B,Q,Z,y,E,i5,i6,rfl,rfl,T,u⟩:=Y.is;have m:=J;rw[E] at m;have p:=(Nc (Nc m).2).1;have M:(⟨0,b,[]⟩:Nd).keys=b.map (·.k):=q1u b;refine⟨up,s,Q,by rw[y],?_,λf=>?_⟩
 ·rw[y,q6x,M,qq9 p];constructor
  ·rintro⟨x,d,e⟩;exact⟨x,by rw[E];simp[d],e⟩
  ·rintro⟨x,d,e⟩;rw[E] at d;rcases List.mem_append.1 d with h|h
   ·rw[(Iq (T x h)).1] at e;cases e
   ·rcases List.mem_append.1 h with h|h
    ·exact⟨x,h,e⟩
    ·rw[(Iq (u x h)).2] at e;cases e
 ·unfold Pl.Oq;rw[Q];dsimp only;rw[y,q6x,M] at f;rw[y,q6x];obtain⟨U,d2⟩:=qkh p f;have X:=qq8 k its;refine (qgg (_k:=k) (n:=6) Z y i5 i6 (by omega) (by omega) (by omega) (new:=[]) (by simp) (by omega) ?_ (qq7 J) (λx d=>G x (qwq d)) (by omega) F λx d=>(G x (by rw[E];simp[d])).2.2).more (by omega);rw[E,qwp T u,U];rfl
end
def Gs (Ns:List (Int × Nd))(a:Int):Option Nd:=(Ns.find? λx=>decide (x.1=a)).map (·.2)
theorem Qga {Ns:List (Int × Nd)}{a:Int}{j:Nat}(d:j<Ns.length)(b:∀q,q<j->(Om Ns q).1≠a)(h:(Om Ns j).1=a):Gs Ns a=some (Om Ns j).2:=by
 induction Ns generalizing j with
 |nil=>cases d
 |cons x r ih=>
  unfold Gs;match j with
  |0=>
   have h:x.1=a:=h;rw[List.find?_cons_of_pos (by exact decide_eq_true h)];rfl
  |j+1=>
   have h0:x.1≠a:=b 0 (by omega);rw[List.find?_cons_of_neg (by simpa using h0)];exact ih (j:=j) (by simpa using d) (λq e=>b (q+1) (by omega)) h
theorem Qf2 {Ns:List (Int × Nd)}{a:Int}(b:∀q,q<Ns.length->(Om Ns q).1≠a):Gs Ns a=none:=by
 unfold Gs;rw[List.find?_eq_none.2]
 ·rfl
 ·intro x m hd;obtain⟨q,d,e⟩:=List.getElem_of_mem m;have:=b q d;have f:=qso d;rw[List.getElem?_eq_getElem d,e] at f;rw[<-Option.some.inj f] at this;exact this (of_decide_eq_true hd)
def Qf9 (Q:World->Prop)(o:Option Nd)(w:World)(e:Ending)(w':World):Prop:=
 ∃A n c B m d,e=.returned (.tuple #[.agg #[.int .i64 (o.getD Jh).lvl,.slice A n c,.slice B m d],.bool o.isSome])/\n<=1000/\m<=1000/\(∀b,Q b->Zl b A n c (o.getD Jh).items/\Zm b B m d (o.getD Jh).kids)/\Below w.1.size w w'
theorem Qd2 {Q:World->Prop}(A:Option Addr)(n c:Nat)(Ns:List (Int × Nd))(a:Int)(w:World)(hI:Anl Q w A n c Ns)(hn:n<=100000) :
  Calls Tryz.prog 36 #[.slice A n c,.int .i64 a] w λe w'=>Qf9 Q (Gs Ns a) w e w':=by
 have hl:=Lib.hid hI.len;obtain⟨E,u⟩:∃E,Gs Ns a=E:=⟨_,rfl⟩;rw[u];have W:Below w.1.size w (w.alloc (.cells #[.int .i64 0,.slice none 0 0,.slice none 0 0] 75)):=Qm;have O:NB (w.alloc (.cells #[.int .i64 0,.slice none 0 0,.slice none 0 0] 75)) w.1.size 0 none 0 0 none 0 0:=NB.new w _ _ _ _ _ _ _ _;go_enter Tryz.func36,Tryz.ntmps36
 go_wp2_with fail
 generalize w.alloc (.cells #[.int .i64 0,.slice none 0 0,.slice none 0 0] 75)=w1 at W O ⊢;have z1:=W.size;have zk:=O.lt;go_loopw [6] (λi wr=>∃j:Nat,j<=n/\i=.int .i64 (j:Int)/\(∀q,q<j->(Om Ns q).1≠a)/\Below w1.1.size w1 wr) (λi _=>n-(intOf i).toNat)
 case atStart=>exact⟨0,Nat.zero_le _,rfl,λq h=>absurd h (Nat.not_lt_zero _),Below.refl _ _⟩
 case round=>
  obtain⟨j,hj,rfl,d,B⟩:=hrel;have m:=W.trans (B.mono z1);have N1:=O.below B zk;by_cases F:j<n
  ·obtain⟨g,o,K,n1,c1,M,m1,X,rfl,I,b,a6,Z,y⟩:=hI.get F;obtain⟨x,J⟩:∃x,Om Ns j=x:=⟨_,rfl⟩;rw[J] at b y;have a0:wr.cell? ⟨g,o+j*4,none⟩=some (.int .i64 x.1):=(m.cell (p:=⟨g,_,none⟩) I).trans (b 0 _ rfl);have a1:wr.cell? ⟨g,o+j*4+1,none⟩=some (.int .i64 x.2.lvl):=(m.cell (p:=⟨g,_,none⟩) I).trans (b 1 _ rfl);have a2:wr.cell? ⟨g,o+j*4+2,none⟩=some (.slice K n1 c1):=(m.cell (p:=⟨g,_,none⟩) I).trans (b 2 _ rfl);have a3:wr.cell? ⟨g,o+j*4+3,none⟩=some (.slice M m1 X):=(m.cell (p:=⟨g,_,none⟩) I).trans (b 3 _ rfl);have e0:(0:Int)<=(j:Int):=by omega
   have e1:(j:Int)<(n:Int):=by omega
   by_cases f:x.1=a
   ·have hv:E=some x.2:=by rw[<-u,Qga (by rw[hl.out];exact F) d (by rw[J];exact f),J]
    subst hv;rw[f] at a0;clear d u f;go_wp2_with (first
     |(refine Gt rfl (.tmp 4) (.tmp 24) rfl w.1.size rfl x.2.lvl K n1 c1 M m1 X rfl N1 ?_;intro w5 T U)
     |fail)
    refine bodyPost_ret (q16 Tryz.results36 rfl (Ii T)) rfl ?_;exact⟨K,n1,c1,M,m1,X,rfl,a6,Z,y,m.trans (U.below (λk Y=>by have h:k=w.1.size:=Y;omega) m.size)⟩
   ·have G:∀q,q<j+1->(Om Ns q).1≠a:=λq y=>by
     by_cases h:q<j
     ·exact d q h
     ·obtain rfl:q=j:=by omega
      rw[J];exact f
    have hd:((x.1:Int)==a)=false:=by simpa using f
    clear d u;go_wp2_with fail
    exact⟨⟨j+1,by omega,by go_num,G,B⟩,by simp[intOf];omega⟩
  ·obtain rfl:n=j:=by omega
   have hv:E=none:=by rw[<-u,Qf2 (λq y=>d q (by rw[hl.out] at y;exact y))]
   subst hv;clear d u;go_wp2_with (first
    |(refine Gt rfl (.tmp 4) (.tmp 25) rfl w.1.size rfl 0 none 0 0 none 0 0 rfl N1 ?_;intro w5 T U)
    |fail)
   refine bodyPost_ret (q16 Tryz.results36 rfl (Ii T)) rfl ?_;exact⟨none,0,0,none,0,0,rfl,by omega,by omega,λw2 _=>⟨qjp w2,qdy w2⟩,m.trans (U.below (λk Y=>by have h:k=w.1.size:=Y;omega) m.size)⟩
structure Qcl (R:Int->Nd × Int)(roots:List Int)(Ns:List (Int × Nd))(seen:Nat->Bool)(todo:List Int):Prop where
 got:∀x∈Ns,R x.1=(x.2,0)/\∃c:Nat,x.1=(c:Int)/\seen c=true
 all:∀c:Nat,seen c=true->(R (c:Int)).2=0->((c:Int),(R (c:Int)).1)∈Ns
 one:Ns.Pairwise λx y=>x.1≠y.1
 root:∀a:Nat,0<a->a<2048->(a:Int)∈roots->seen a=true\/(a:Int)∈todo
 kid:∀x∈Ns,∀y∈x.2.kids,∀a:Nat,y.a=(a:Int)->0<a->a<2048->seen a=true\/(a:Int)∈todo
theorem Qe3 (R:Int->Nd × Int)(roots:List Int):Qcl R roots [] (λ_=>false) roots:=
 ⟨λx h=>absurd h (List.not_mem_nil),λc h=>(by cases h),List.Pairwise.nil,λ_ _ _ h=>.inr h,λx h=>absurd h (List.not_mem_nil)⟩
section
variable {R:Int->Nd × Int}{roots:List Int}{Ns:List (Int × Nd)}{seen:Nat->Bool}{r:List Int}{x:Int}
theorem Qep {a:Nat}(hm:(a:Int)∈r++[x])(b:(a:Int)≠x):(a:Int)∈r:=by
 rcases List.mem_append.1 hm with h|h
 ·exact h
 ·exact absurd (List.mem_singleton.1 h) b
theorem Qd0 (H:Qcl R roots Ns seen (r++[x]))(b:x<=0\/2048<=x\/seen x.toNat=true):Qcl R roots Ns seen r:=by
 have key:∀a:Nat,0<a->a<2048->(seen a=true\/(a:Int)∈r++[x])->seen a=true\/(a:Int)∈r:=λa h1 h2 h=>by
  rcases h with h|h
  ·exact .inl h
  ·by_cases e:(a:Int)=x
   ·left
    rcases b with b|b|b
    ·omega
    ·omega
    ·rw[<-e,Int.toNat_natCast] at b;exact b
   ·exact .inr (Qep h e)
 exact⟨H.got,H.all,H.one,λa h1 h2 h=>key a h1 h2 (H.root a h1 h2 h),λz f y d a e h1 h2=>key a h1 h2 (H.kid z f y d a e h1 h2)⟩
def see (seen:Nat->Bool)(q:Nat):Nat->Bool:=λb=>if b=q then true else seen b
theorem Qd8 {q a:Nat}(h:seen a=true):see seen q a=true:=by
 unfold see;split
 ·rfl
 ·exact h
theorem Qes (q:Nat):see seen q q=true:=by unfold see;rw[if_pos rfl]
theorem Qfs {q:Nat}(H:Qcl R roots Ns seen (r++[(q:Int)]))(m:(R (q:Int)).2≠0):Qcl R roots Ns (see seen q) r:=by
 have key:∀a:Nat,(seen a=true\/(a:Int)∈r++[(q:Int)])->see seen q a=true\/(a:Int)∈r:=λa h=>by
  rcases h with h|h
  ·exact .inl (Qd8 h)
  ·by_cases e:(a:Int)=(q:Int)
   ·have:a=q:=by omega
    subst this;exact .inl (Qes a)
   ·exact .inr (Qep h e)
 refine⟨λz d=>?_,λc b h0=>?_,H.one,λa h1 h2 h=>key a (H.root a h1 h2 h),λz d y p a e h1 h2=>key a (H.kid z d y p a e h1 h2)⟩
 ·obtain⟨h1,c,h2,f⟩:=H.got z d;exact⟨h1,c,h2,Qd8 f⟩
 ·by_cases e:c=q
  ·subst e;exact absurd h0 m
  ·unfold see at b;rw[if_neg e] at b;exact H.all c b h0
theorem Qfi {q:Nat}{N:Nd}(H:Qcl R roots Ns seen (r++[(q:Int)]))(u:seen q=false)(p:R (q:Int)=(N,0)):Qcl R roots (Ns++[((q:Int),N)]) (see seen q) (r++N.kids.map (·.a)):=by
 have key:∀a:Nat,(seen a=true\/(a:Int)∈r++[(q:Int)])->see seen q a=true\/(a:Int)∈r++N.kids.map (·.a):=λa h=>by
  rcases h with h|h
  ·exact .inl (Qd8 h)
  ·by_cases e:(a:Int)=(q:Int)
   ·have:a=q:=by omega
    subst this;exact .inl (Qes a)
   ·exact .inr (List.mem_append_left _ (Qep h e))
 refine⟨λz d=>?_,λc m h0=>?_,?_,λa h1 h2 h=>key a (H.root a h1 h2 h),λz d y b a e h1 h2=>?_⟩
 ·rcases List.mem_append.1 d with h|h
  ·obtain⟨h1,c,h2,f⟩:=H.got z h;exact⟨h1,c,h2,Qd8 f⟩
  ·rw[List.mem_singleton.1 h];exact⟨p,q,rfl,Qes q⟩
 ·by_cases e:c=q
  ·subst e;rw[p];exact List.mem_append_right _ (List.mem_singleton.2 rfl)
  ·unfold see at m;rw[if_neg e] at m;exact List.mem_append_left _ (H.all c m h0)
 ·refine List.pairwise_append.2 ⟨H.one,List.pairwise_singleton _ _,λz d y b=>?_⟩;rw[List.mem_singleton.1 b];obtain⟨_,c,h2,f⟩:=H.got z d;intro e;rw[h2] at e;have e:(c:Int)=(q:Int):=e;have:c=q:=by omega
  subst this;rw[u] at f
  cases f
 ·rcases List.mem_append.1 d with h|h
  ·exact key a (H.kid z h y b a e h1 h2)
  ·rw[List.mem_singleton.1 h] at b;exact .inr (List.mem_append_right _ (List.mem_map.2 ⟨y,b,e⟩))
end
theorem Qf3 {Ns:List (Int × Nd)}(h1:Ns.Pairwise λx y=>x.1≠y.1){a:Int}{N:Nd}(hm:(a,N)∈Ns):Gs Ns a=some N:=by
 induction Ns with
 |nil=>cases hm
 |cons z t ih=>
  obtain⟨b,d⟩:=List.pairwise_cons.1 h1;unfold Gs;by_cases e:z.1=a
  ·rw[List.find?_cons_of_pos (by exact decide_eq_true e)];rcases List.mem_cons.1 hm with h|h
   ·rw[<-h];rfl
   ·exact absurd e (b _ h)
  ·rw[List.find?_cons_of_neg (by simpa using e)];rcases List.mem_cons.1 hm with h|h
   ·exact absurd (by rw[<-h]) e
   ·exact ih d h
theorem Qfv {Ns:List (Int × Nd)}{a:Int}(h:∀x∈Ns,x.1≠a):Gs Ns a=none:=by
 unfold Gs;rw[List.find?_eq_none.2]
 ·rfl
 ·intro x b hd;exact h x b (of_decide_eq_true hd)
theorem qu0 (n:Nat)(a:Int):(Ct.zero n).get a=0:=by
 unfold Ct.get Ct.zero nm;split
 ·show (List.replicate n (0:Int)).getD a.toNat 0=0;rw[List.getD_eq_getElem?_getD,List.getElem?_replicate];split<;>rfl
 ·rfl
theorem Nh (P:Pl)(D:DM):P.hide D []=P.store D:=by
 funext a
 exact if_neg (by simp)
theorem qml {n:Nat}(h1:32<=n)(h2:n<=2048):Keep ((DM.mk0 n).Qk (Xt n)) (fmtS n) (Ct.zero n) [] [] (Pl.fresh n):=by
 obtain⟨_,h,_⟩:=qdl (D:=DM.mk0 n) h1 h2 rfl ⟨rfl,rfl⟩;have d:∀a:Int,(Pl.fresh n).C.get a=0:=qu0 n;refine⟨⟨qje h1 h2,h,λa b m=>(by cases m)⟩,λa f=>absurd (d a) (q31 f),⟨λa _ _=>?_⟩,λx p=>(by cases p),λa _ h0=>absurd (d a) h0⟩;have e:∀b,(Pl.fresh n).cnt b=0:=λb=>by unfold Pl.cnt;rw[d];rfl
 rw[e];have:refs (λb=>((Pl.fresh n).hide ((DM.mk0 n).Qk (Xt n)) [] (b:Int)).1.named) (Pl.fresh n).C.n (Pl.fresh n).cnt a=0:=qc4 λb _=>by rw[e];rfl
 rw[this];rfl
section
variable {D:DM}{S0:Sp}{C0:Ct}{H:List Int}{P:Pl}
theorem Keep.ok0 (K:Keep D S0 C0 [] H P){a:Nat}(h0:P.C.get (a:Int)≠0):(P.store D (a:Int)).2=0:=by
 have:=(K.told h0 (by simp)).err;rwa [Nh] at this
theorem qii (K:Keep D S0 C0 [] H P)(F:P.g<1099511627775):Keep (D.Qk P.steps) P.sup P.C [] H P.done/\∀a,(P.store D a).2=0->P.done.store (D.Qk P.steps) a=P.store D a:=by
 have d:=K.Zt.ok;have u:=K.Zt.sound;have m:=q8j d u K.Zt.good;obtain⟨_,_,y,_⟩:=qrw d u;have G:P.Uc D H:=Jo.same K.Uc (λ_ _=>rfl) λb _ _=>by rw[Nh];rfl
 have p:=qhy G d u K.Zt.good λa _ h0=>K.ok0 h0
 refine⟨⟨⟨qp6 d F,y,λa b B=>(by cases B)⟩,λa f=>?_,Jo.same p (λ_ _=>rfl) (λb _ _=>by rw[Nh];rfl),λx A=>(by cases A),λa f h0 _=>?_⟩,m⟩
 ·exfalso
  have h0:=q31 (C:=P.C.commit) f;have f:P.C.commit.fresh (a:Int)=true:=f;unfold Ct.fresh at f;rw[if_neg h0] at f;have e:P.C.commit.get (a:Int)=nm P.C.commit.done a:=by
   unfold Ct.get at h0 ⊢;split
   ·rw[Int.toNat_natCast];rfl
   ·rename_i E;rw[if_neg E] at h0;exact absurd rfl h0
  rw[e] at h0;simp[h0] at f
 ·have h0:P.C.get (a:Int)≠0:=h0;have L:=K.told h0 (by simp);rw[Nh] at L ⊢;exact L.ext λx A=>m x A
theorem Keep.Ui (K:Keep D S0 C0 [] H P):P.Ui D:=by
 have L:=λ{a:Nat} (h0:P.C.get (a:Int)≠0)=>by
  have:=K.told h0 (by simp:(a:Int)∉([]:List Int));rw[Nh] at this;exact this
 refine⟨λa _ h0=>(L h0).err,λa _ h0=>(L h0).may,λa _ h0=>(L h0).bare,λa _ h0 x p=>?_⟩;obtain⟨u,d,f,_⟩:=(L h0).kids x p;obtain⟨c,e,m,b⟩:=q4q u;obtain⟨c0,_⟩:=K.first b
 rw[e] at d f;exact⟨c,e,c0,m,b,d,f⟩
theorem Keep.Qcd (K:Keep D S0 C0 [] H P):P.Uc D H:=Jo.same K.Uc (λ_ _=>rfl) λb _ _=>by rw[Nh];rfl
theorem Qdu (K:Keep D S0 C0 [] H P){roots:List Int}{Ns:List (Int × Nd)}{seen:Nat->Bool}(m:Qcl (P.store D) roots Ns seen [])(M:∀a:Nat,0<a->a<P.C.n->(a:Int)∈H->(a:Int)∈roots)(a:Nat) :
  Gs Ns (a:Int)=if P.C.get (a:Int)=0 then none else some (P.Qh D (a:Int)):=by
 have hn:=K.c.1.2;by_cases h0:P.C.get (a:Int)=0
 ·rw[if_pos h0];refine Qfv λx E e=>?_
  obtain⟨F,_⟩:=m.got x E;rw[e,q0z h0] at F;injection F with _ J
  cases J
 ·rw[if_neg h0];obtain⟨c0,I⟩:=K.first h0
  have f:=qbp (H:=H) K.Qcd K.Ui K.c K.Zt.ok.res (S:=λa=>seen a=true) (λb d G u=>by
    rcases m.root b d (by omega) (M b d G u) with h|h
    ·exact h
    ·cases h) (λb c d G B O y A ⟨x,E,e⟩=>by
    have p:=m.all b A (K.ok0 y);rcases m.kid _ p x E c e B (by omega) with h|h
    ·exact h
    ·cases h) a I h0
  exact Qf3 m.one (m.all a f (K.ok0 h0))
end
theorem qqu {k:Kd}{l:List Qc}{j:Nat}(b:j<l.length):Jv k (l.drop j)=(if (Qj l j).k.same k=true then [] else [Qj l j])++Jv k (l.drop (j+1)):=by
 rw[q9w b];unfold Jv;rw[List.filter_cons]
 cases (Qj l j).k.same k<;>rfl
theorem qqv {k:Kd}{l:List Qc}{j:Nat}(h:l.length<=j):Jv k (l.drop j)=[]:=by
 rw[List.drop_of_length_le h];rfl
theorem qqw (F:Option Addr->List UInt8->Prop)(A:Option Addr)(n c:Nat)(l:List Qc)(k:Kd)(w:World)(hI:Zg F w A n c l)(hn:n<=400)(t:Bool)(ht:decide ((Jv k l).length<l.length)=t) :
  Calls Tryz.prog 34 #[.slice A n c,.agg #[.int .i64 k.obj,.int .i64 k.kind,.int .i64 k.off]] w λe I=>∃E n' Q,e=.returned (.tuple #[.slice E n' Q,.bool t])/\Zg F I E n' Q (Jv k l)/\(∀g,q01 E=some g->w.1.size<=g)/\Below w.1.size w I:=by
 have hl:=Lib.hid hI.Zq.len;obtain⟨K0,bB⟩:=Xb w k;obtain⟨R,G⟩:∃R,Jv k l=R:=⟨_,rfl⟩;have f:([]:List Qc)++Jv k (l.drop 0)=R:=G;rw[G] at ht ⊢;have a7:R.length<=n:=by rw[<-G];have:=qq8 k l;have:=hl.out;omega
 clear G;replace ht:=Lib.hid ht;go_enter Tryz.func34,Tryz.ntmps34
 go_wp2_with fail
 generalize a2:w.alloc (.cells #[.int .i64 k.obj,.int .i64 k.kind,.int .i64 k.off] 30)=Z at K0 bB ⊢;have zw:Z.1.size=w.1.size+1:=by rw[<-a2];simp
 clear a2;have bl:Below Z.1.size Z (Z.alloc (.cells #[] 68)):=Qm;have J0:=q26 (F:=F) Z;have K1:=K0.below bl K0.lt;have B1:=bB.trans (bl.mono bB.size);have zl:=bl.size;generalize Z.alloc (.cells #[] 68)=w2 at bl J0 K1 B1 zl ⊢;rw[zw] at J0;go_loopw [6,7] (λlv i wr=>∃(j m:Nat) (E:Option Addr) (Q:Nat) (out:List Qc),j<=n/\m<=j/\i=.int .i64 (j:Int)/\lv=.slice E m Q/\Je F wr (w.1.size+1) E m Q out/\out++Jv k (l.drop j)=R/\KB wr w.1.size k/\Below w.1.size w wr/\w.1.size+1<=wr.1.size) (λ_ i _=>n-(intOf i).toNat)
 case atStart=>exact⟨0,0,_,_,[],Nat.zero_le _,Nat.le_refl _,rfl,rfl,J0,f,K1,B1,by omega⟩
 case round=>
  clear J0 K1 B1 f K0 bB bl zl;obtain⟨j,m,E,Q,out,hj,hm,rfl,rfl,J,f,K,B,W⟩:=hrel;by_cases a1:j<n
  ·have y:=qqu (k:=k) (l:=l) (j:=j) (by rw[hl.out];exact a1);rw[y] at f;obtain⟨g,o,X,xp,xq,rfl,Y,c0,c1,c2,c3,hs⟩:=hI.cell a1;obtain⟨x,hx⟩:∃x,Qj l j=x:=⟨_,rfl⟩;rw[hx] at c0 c1 c2 hs f;have HX:=Lib.hid (λ(I:World) (b:Below w.1.size w I)=>show I.cell? ⟨g,o+j*4,none⟩=some (.int .i64 x.k.obj)/\I.cell? ⟨g,o+j*4+1,none⟩=some (.int .i64 x.k.kind)/\I.cell? ⟨g,o+j*4+2,none⟩=some (.int .i64 x.k.off)/\I.cell? ⟨g,o+j*4+3,none⟩=some (.slice X xp xq)/\Le F I X xp xq x.v from
    ⟨(b.cell (p:=⟨g,_,none⟩) Y).trans c0,(b.cell (p:=⟨g,_,none⟩) Y).trans c1,(b.cell (p:=⟨g,_,none⟩) Y).trans c2,(b.cell (p:=⟨g,_,none⟩) Y).trans c3,hs.below b⟩)
   have e0:(0:Int)<=(j:Int):=by omega
   have e1:(j:Int)<(n:Int):=by omega
   have a6:=hs.1.Qa;clear c0 c1 c2 c3 hs hx y;have b5:=q9x;have d0:=λu:Grown wr=>(HX.out u.to (B.trans (u.ok.mono B.size))).1
   have d1:=λu:Grown wr=>(HX.out u.to (B.trans (u.ok.mono B.size))).2.1
   have d2:=λu:Grown wr=>(HX.out u.to (B.trans (u.ok.mono B.size))).2.2.1
   have k0:=λu:Grown wr=>Grown.cell K.c0 K.lt u
   have k1:=λu:Grown wr=>Grown.cell K.c1 K.lt u
   have k2:=λu:Grown wr=>Grown.cell K.c2 K.lt u
   cases h2:x.k.same k with
   |true=>
    have b1:=q2b x.k k true false h2 rfl;rw[h2] at f;clear h2;have T:out++Jv k (l.drop (j+1))=R:=by rw[<-f];simp
    clear f;go_wp2_with fail
    refine Yc (by kernel_rfl) (by kernel_rfl) ?_;repeat (go_big_quiet_step (fail))
    refine wpQuiet_nil ?_;rintro _ ⟨u,rfl⟩;clear d0 d1 d2 k0 k1 k2;replace J:=J.below u.ok;replace K:=K.below u.ok K.lt;replace B:=B.trans (u.ok.mono B.size);replace W:=Nat.le_trans W u.ok.size;generalize u.to=w6 at J K B W ⊢;clear u;go_wp2;exact⟨⟨j+1,m,_,_,out,by omega,by omega,by go_num,rfl,J,T,K,B,W⟩,by simp[intOf];omega⟩
   |false=>
    have b1:=q2b x.k k false true h2 rfl;rw[h2] at f;clear h2;have T:(out++[x])++Jv k (l.drop (j+1))=R:=by rw[<-f];simp
    clear f;go_wp2_with fail
    refine Yc (by kernel_rfl) (by kernel_rfl) ?_;repeat (go_big_quiet_step (fail))
    refine wpQuiet_nil ?_;rintro _ ⟨u,rfl⟩;clear d0 d1 d2 k0 k1 k2;replace J:=J.below u.ok;replace K:=K.below u.ok K.lt;replace B:=B.trans (u.ok.mono B.size);replace W:=Nat.le_trans W u.ok.size;generalize u.to=d at J K B W ⊢;clear u;obtain⟨d0,d1,d2,d3,b4⟩:=HX.out d B;have b0:x.v≠[]->∀b,q01 X=some b->q01 E≠some b:=λhv b hb e=>by have h1:=a6 hv b hb;have h2:=(J.Qa b e).1;omega
    have b2:Below d.1.size d (d.alloc (.cells #[.int .i64 x.k.obj,.int .i64 x.k.kind,.int .i64 x.k.off,.slice X xp xq] 68)):=Qm;have b6:=b2.size;go_wp2_with (first
     |(at_builtin;refine q1b rfl _ _ rfl (w.1.size+1) E (m) Q (out) rfl (J.below b2) (some ⟨d.1.size,0,none⟩) 1 x X xp xq rfl (q1y d x.k X xp xq) (b4.below b2) b0 (by omega) (by omega) ?_)
     |fail)
    intro A3 c3 w9 J3 T3;have b3:=T3.below (λk hk=>(J.Qa k hk).1) (show w.1.size+1<=_ by omega);have O:Below (w.1.size+1) d w9:=(b2.mono (by omega)).trans b3;go_wp2;exact⟨⟨j+1,m+1,_,_,(out)++[x],by omega,by omega,by go_num,rfl,J3,T,K.below O (by omega),B.trans (O.mono (by omega)),by have:=O.size;omega⟩,by simp[intOf];omega⟩
  ·have M:=qqv (k:=k) (l:=l) (j:=j) (by rw[hl.out];omega);rw[M,List.append_nil] at f;subst f;have a8:=J.Gn.Zq.len;have U:decide (m<n)=t:=by
    rw[<-ht.out,hl.out,a8]
   clear M a7;replace U:=Lib.hid U;go_wp2;go_ret2;exact⟨_,_,_,by rw[<-U.out];rfl,J.Gn,λg Y=>by have:=(J.Qa g Y).1;omega,B⟩
