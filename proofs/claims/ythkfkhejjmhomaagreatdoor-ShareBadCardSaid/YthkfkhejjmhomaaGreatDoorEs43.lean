/- A pool whose blocks are counted as often as they are named: what PutNode, Ref, Unref, SetN -/
import Derived.Test.YthkfkhejjmhomaaGreatDoorGbAv1
import Derived.Test.YthkfkhejjmhomaaGreatDoorEs40
import Derived.Test.YthkfkhejjmhomaaGreatDoorGbCv1
namespace Go.Proofs.YthkfkhejjmhomaaGreatDoor
open Go Go.RowKit Go.Proofs
set_option maxHeartbeats 8000000
theorem qv5 {P:Pl}{D:DM}{a:Nat}(h:P.C.get (a:Int)=0):P.names D a=[]:=by
 unfold Pl.names Pl.Qa;rw[if_pos h];rfl
section
variable {P:Pl}{D:DM}
theorem qeo {H roots:List Int}(F:P.Vz D H)(h:P.Yp D)(p:P.C.ok)(f:P.C.res)(y:∀a:Nat,0<a->a<P.C.n->roots.count (a:Int)=H.count (a:Int)){K:Nat->List Int}{N:Nat->Nat}
  (m:∀b,b<P.C.n->K b=P.names D b) (u:Jv K roots P.C.n N []) (a:Nat) (B:a<P.C.n):(N a:Int)=P.C.get (a:Int):=by
 have h1:=qg9 (n:=P.C.n) (cnt:=P.cnt) (K:=P.names D) F (P.Gx D) (λb a d _ hm=>qcg h b a d hm) (qpv h) (qe2 f) y
  (λb d _=>m b d)
  (λb d E=>by
   rw[m b d];by_cases e:P.C.get (b:Int)=0
   ·exact qv5 e
   ·have:=(q84 p).2 e;omega) u a B
 have d:=Ct.Zd p (a:Int);rw[h1];unfold Pl.cnt;omega
end
def Fz (Ns:List (Int × Nd))(a:Int):Option Nd:=(Ns.find? λx=>decide (x.1=a)).map (·.2)
theorem qzc {Ns:List (Int × Nd)}{a:Int}{j:Nat}(d:j<Ns.length)(b:∀q,q<j->(Gt Ns q).1≠a)(h:(Gt Ns j).1=a):Fz Ns a=some (Gt Ns j).2:=by
 induction Ns generalizing j with
 |nil=>cases d
 |cons x r ih=>
  unfold Fz;match j with
  |0=>
   have h:x.1=a:=h;rw[List.find?_cons_of_pos (by exact decide_eq_true h)];rfl
  |j+1=>
   have h0:x.1≠a:=b 0 (by omega);rw[List.find?_cons_of_neg (by simpa using h0)];exact ih (j:=j) (by simpa using d) (λq e=>b (q+1) (by omega)) h
theorem qxx {Ns:List (Int × Nd)}{a:Int}(b:∀q,q<Ns.length->(Gt Ns q).1≠a):Fz Ns a=none:=by
 unfold Fz;rw[List.find?_eq_none.2]
 ·rfl
 ·intro x m hd;obtain⟨q,d,e⟩:=List.getElem_of_mem m;have:=b q d;have f:=qlj d;rw[List.getElem?_eq_getElem d,e] at f;rw[<-Option.some.inj f] at this;exact this (of_decide_eq_true hd)
def Qbh (Q:World->Prop)(o:Option Nd)(w:World)(e:Ending)(w':World):Prop:=
 ∃A n c B m d,e=.returned (.tuple #[.agg #[.int .i64 (o.getD Zk).lvl,.slice A n c,.slice B m d],.bool o.isSome])/\n<=1000/\m<=1000/\(∀b,Q b->Jd b A n c (o.getD Zk).items/\Zp b B m d (o.getD Zk).kids)/\Below w.1.size w w'
theorem qxy {Q:World->Prop}(A:Option Addr)(n c:Nat)(Ns:List (Int × Nd))(a:Int)(w:World)(hI:Nw Q w A n c Ns)(hn:n<=100000) :
  Calls Tryz.prog 137 #[.slice A n c,.int .i64 a] w λe w'=>Qbh Q (Fz Ns a) w e w':=by
 have hl:=Lib.hid hI.len;obtain⟨E,u⟩:∃E,Fz Ns a=E:=⟨_,rfl⟩;rw[u];have X:Below w.1.size w (w.alloc (.cells #[.int .i64 0,.slice none 0 0,.slice none 0 0] 77)):=Qn;have T:NB (w.alloc (.cells #[.int .i64 0,.slice none 0 0,.slice none 0 0] 77)) w.1.size 0 none 0 0 none 0 0:=NB.new w _ _ _ _ _ _ _ _;go_enter Tryz.func137,Tryz.ntmps137
 go_wp2_with fail
 generalize w.alloc (.cells #[.int .i64 0,.slice none 0 0,.slice none 0 0] 77)=w1 at X T ⊢;have z1:=X.size;have zk:=T.lt;go_loopw [6] (λi wr=>∃j:Nat,j<=n/\i=.int .i64 (j:Int)/\(∀q,q<j->(Gt Ns q).1≠a)/\Below w1.1.size w1 wr) (λi _=>n-(intOf i).toNat)
 case atStart=>exact⟨0,Nat.zero_le _,rfl,λq h=>absurd h (Nat.not_lt_zero _),Below.refl _ _⟩
 case round=>
  obtain⟨j,hj,rfl,d,B⟩:=hrel;have m:=X.trans (B.mono z1);have N1:=T.below B zk;by_cases F:j<n
  ·obtain⟨g,o,K,n1,c1,M,m1,Y,rfl,I,b,a5,a4,y⟩:=hI.get F;obtain⟨x,J⟩:∃x,Gt Ns j=x:=⟨_,rfl⟩;rw[J] at b y;have a0:wr.cell? ⟨g,o+j*4,none⟩=some (.int .i64 x.1):=(m.cell (p:=⟨g,_,none⟩) I).trans (b 0 _ rfl);have a1:wr.cell? ⟨g,o+j*4+1,none⟩=some (.int .i64 x.2.lvl):=(m.cell (p:=⟨g,_,none⟩) I).trans (b 1 _ rfl);have a2:wr.cell? ⟨g,o+j*4+2,none⟩=some (.slice K n1 c1):=(m.cell (p:=⟨g,_,none⟩) I).trans (b 2 _ rfl);have a3:wr.cell? ⟨g,o+j*4+3,none⟩=some (.slice M m1 Y):=(m.cell (p:=⟨g,_,none⟩) I).trans (b 3 _ rfl);have e0:(0:Int)<=(j:Int):=by omega
   have e1:(j:Int)<(n:Int):=by omega
   by_cases f:x.1=a
   ·have hv:E=some x.2:=by rw[<-u,qzc (by rw[hl.out];exact F) d (by rw[J];exact f),J]
    subst hv;rw[f] at a0;clear d u f;go_wp2_with (first
     |(refine Ub rfl (.tmp 4) (.tmp 24) rfl w.1.size rfl x.2.lvl K n1 c1 M m1 Y rfl N1 ?_;intro w5 U W)
     |fail)
    refine bodyPost_ret (Gi Tryz.results137 rfl (Ew U)) rfl ?_;exact⟨K,n1,c1,M,m1,Y,rfl,a5,a4,y,m.trans (W.below (λk Z=>by have h:k=w.1.size:=Z;omega) m.size)⟩
   ·have G:∀q,q<j+1->(Gt Ns q).1≠a:=λq y=>by
     by_cases h:q<j
     ·exact d q h
     ·obtain rfl:q=j:=by omega
      rw[J];exact f
    have hd:((x.1:Int)==a)=false:=by simpa using f
    clear d u;go_wp2_with fail
    exact⟨⟨j+1,by omega,by go_num,G,B⟩,by simp[intOf];omega⟩
  ·obtain rfl:n=j:=by omega
   have hv:E=none:=by rw[<-u,qxx (λq y=>d q (by rw[hl.out] at y;exact y))]
   subst hv;clear d u;go_wp2_with (first
    |(refine Ub rfl (.tmp 4) (.tmp 25) rfl w.1.size rfl 0 none 0 0 none 0 0 rfl N1 ?_;intro w5 U W)
    |fail)
   refine bodyPost_ret (Gi Tryz.results137 rfl (Ew U)) rfl ?_;exact⟨none,0,0,none,0,0,rfl,by omega,by omega,λw2 _=>⟨qe8 w2,q9m w2⟩,m.trans (W.below (λk Z=>by have h:k=w.1.size:=Z;omega) m.size)⟩
theorem qj1 (R:Int->Nd × Int)(roots:List Int):Xc R roots [] (λ_=>false) roots:=
 ⟨λx h=>absurd h (List.not_mem_nil),λc h=>(by cases h),List.Pairwise.nil,λ_ _ _ h=>.inr h,λx h=>absurd h (List.not_mem_nil)⟩
section
variable {R:Int->Nd × Int}{roots:List Int}{Ns:List (Int × Nd)}{seen:Nat->Bool}{r:List Int}{x:Int}
theorem qj2 {a:Nat}(hm:(a:Int)∈r++[x])(b:(a:Int)≠x):(a:Int)∈r:=by
 rcases List.mem_append.1 hm with h|h
 ·exact h
 ·exact absurd (List.mem_singleton.1 h) b
theorem q8n (H:Xc R roots Ns seen (r++[x]))(b:x<=0\/2048<=x\/seen x.toNat=true):Xc R roots Ns seen r:=by
 have key:∀a:Nat,0<a->a<2048->(seen a=true\/(a:Int)∈r++[x])->seen a=true\/(a:Int)∈r:=λa h1 h2 h=>by
  rcases h with h|h
  ·exact .inl h
  ·by_cases e:(a:Int)=x
   ·left
    rcases b with b|b|b
    ·omega
    ·omega
    ·rw[<-e,Int.toNat_natCast] at b;exact b
   ·exact .inr (qj2 h e)
 exact⟨H.got,H.all,H.one,λa h1 h2 h=>key a h1 h2 (H.root a h1 h2 h),λz f y d a e h1 h2=>key a h1 h2 (H.kid z f y d a e h1 h2)⟩
def see (seen:Nat->Bool)(q:Nat):Nat->Bool:=λb=>if b=q then true else seen b
theorem qep {q a:Nat}(h:seen a=true):see seen q a=true:=by
 unfold see;split
 ·rfl
 ·exact h
theorem qj3 (q:Nat):see seen q q=true:=by unfold see;rw[if_pos rfl]
theorem qrp {q:Nat}(H:Xc R roots Ns seen (r++[(q:Int)]))(m:(R (q:Int)).2≠0):Xc R roots Ns (see seen q) r:=by
 have key:∀a:Nat,(seen a=true\/(a:Int)∈r++[(q:Int)])->see seen q a=true\/(a:Int)∈r:=λa h=>by
  rcases h with h|h
  ·exact .inl (qep h)
  ·by_cases e:(a:Int)=(q:Int)
   ·have:a=q:=by omega
    subst this;exact .inl (qj3 a)
   ·exact .inr (qj2 h e)
 refine⟨λz d=>?_,λc b h0=>?_,H.one,λa h1 h2 h=>key a (H.root a h1 h2 h),λz d y p a e h1 h2=>key a (H.kid z d y p a e h1 h2)⟩
 ·obtain⟨h1,c,h2,f⟩:=H.got z d;exact⟨h1,c,h2,qep f⟩
 ·by_cases e:c=q
  ·subst e;exact absurd h0 m
  ·unfold see at b;rw[if_neg e] at b;exact H.all c b h0
theorem qnm {q:Nat}{N:Nd}(H:Xc R roots Ns seen (r++[(q:Int)]))(u:seen q=false)(p:R (q:Int)=(N,0)):Xc R roots (Ns++[((q:Int),N)]) (see seen q) (r++N.kids.map (·.a)):=by
 have key:∀a:Nat,(seen a=true\/(a:Int)∈r++[(q:Int)])->see seen q a=true\/(a:Int)∈r++N.kids.map (·.a):=λa h=>by
  rcases h with h|h
  ·exact .inl (qep h)
  ·by_cases e:(a:Int)=(q:Int)
   ·have:a=q:=by omega
    subst this;exact .inl (qj3 a)
   ·exact .inr (List.mem_append_left _ (qj2 h e))
 refine⟨λz d=>?_,λc m h0=>?_,?_,λa h1 h2 h=>key a (H.root a h1 h2 h),λz d y b a e h1 h2=>?_⟩
 ·rcases List.mem_append.1 d with h|h
  ·obtain⟨h1,c,h2,f⟩:=H.got z h;exact⟨h1,c,h2,qep f⟩
  ·rw[List.mem_singleton.1 h];exact⟨p,q,rfl,qj3 q⟩
 ·by_cases e:c=q
  ·subst e;rw[p];exact List.mem_append_right _ (List.mem_singleton.2 rfl)
  ·unfold see at m;rw[if_neg e] at m;exact List.mem_append_left _ (H.all c m h0)
 ·refine List.pairwise_append.2 ⟨H.one,List.pairwise_singleton _ _,λz d y b=>?_⟩;rw[List.mem_singleton.1 b];obtain⟨_,c,h2,f⟩:=H.got z d;intro e;rw[h2] at e;have e:(c:Int)=(q:Int):=e;have:c=q:=by omega
  subst this;rw[u] at f
  cases f
 ·rcases List.mem_append.1 d with h|h
  ·exact key a (H.kid z h y b a e h1 h2)
  ·rw[List.mem_singleton.1 h] at b;exact .inr (List.mem_append_right _ (List.mem_map.2 ⟨y,b,e⟩))
end
theorem qxz {Ns:List (Int × Nd)}(h1:Ns.Pairwise λx y=>x.1≠y.1){a:Int}{N:Nd}(hm:(a,N)∈Ns):Fz Ns a=some N:=by
 induction Ns with
 |nil=>cases hm
 |cons z t ih=>
  obtain⟨b,d⟩:=List.pairwise_cons.1 h1;unfold Fz;by_cases e:z.1=a
  ·rw[List.find?_cons_of_pos (by exact decide_eq_true e)];rcases List.mem_cons.1 hm with h|h
   ·rw[<-h];rfl
   ·exact absurd e (b _ h)
  ·rw[List.find?_cons_of_neg (by simpa using e)];rcases List.mem_cons.1 hm with h|h
   ·exact absurd (by rw[<-h]) e
   ·exact ih d h
theorem qv6 {Ns:List (Int × Nd)}{a:Int}(h:∀x∈Ns,x.1≠a):Fz Ns a=none:=by
 unfold Fz;rw[List.find?_eq_none.2]
 ·rfl
 ·intro x b hd;exact h x b (of_decide_eq_true hd)
section
variable {D:DM}{S0:Sp}{C0:Ct}{H:List Int}{P:Pl}
theorem qba (K:Keep D S0 C0 [] H P){roots:List Int}{Ns:List (Int × Nd)}{seen:Nat->Bool}(u:Xc (P.store D) roots Ns seen [])(Q:∀a:Nat,0<a->a<P.C.n->(a:Int)∈H->P.Qd D (a:Int)=0->(a:Int)∈roots)(a:Nat) :
  Fz Ns (a:Int)=if P.Qd D (a:Int)=0 then some (P.Qa D (a:Int)) else none:=by
 have hn:=K.c.1.2;by_cases p:P.Qd D (a:Int)=0
 ·rw[if_pos p];have h0:=q3k p;obtain⟨c0,M⟩:=K.first h0
  have m:=q3e (H:=H) K.Ii K.Yp K.c K.Ze.ok.res (S:=λa=>seen a=true) (λb d J B f=>by
    rcases u.root b d (by omega) (Q b d J B f) with h|h
    ·exact h
    ·cases h) (λb c d J F T f E ⟨x,G,e⟩=>by
    have y:=u.all b E f;rcases u.kid _ y x G c e F (by omega) with h|h
    ·exact h
    ·cases h) a M p
  exact qxz u.one (u.all a m p)
 ·rw[if_neg p];refine qv6 λx G e=>?_
  obtain⟨I,_⟩:=u.got x G;rw[e] at I;exact p (congrArg Prod.snd I)
theorem qj4 (K:Keep D S0 C0 [] H P){roots:List Int}{Ns:List (Int × Nd)}{seen:Nat->Bool}(p:Xc (P.store D) roots Ns seen [])(f:∀a:Nat,0<a->a<P.C.n->roots.count (a:Int)=H.count (a:Int)){N:Nat->Nat}(hn:Jv (λb=>((Fz Ns (b:Int)).getD Zk).named) roots P.C.n N [])(a:Nat)(u:a<P.C.n):(N a:Int)=P.C.get (a:Int):=by
 have d:∀b:Nat,0<b->b<P.C.n->(b:Int)∈H->P.Qd D (b:Int)=0->(b:Int)∈roots:=λb h1 h2 m _=>List.count_pos_iff.1 (by rw[f b h1 h2];exact List.count_pos_iff.2 m)
 have y:=qba K p d;refine qeo K.Ii K.Yp K.c K.Ze.ok.res f (K:=λb=>((Fz Ns (b:Int)).getD Zk).named) (λb B=>?_) hn a u;show ((Fz Ns (b:Int)).getD Zk).named=(P.Qa D (b:Int)).named;rw[y b];by_cases e:P.Qd D (b:Int)=0
 ·rw[if_pos e];rfl
 ·rw[if_neg e,q75 e];rfl
theorem qj5 (K:Keep D S0 C0 [] H P){roots:List Int}{Ns:List (Int × Nd)}{seen:Nat->Bool}(f:Xc (P.store D) roots Ns seen [])(m:∀a:Nat,0<a->a<P.C.n->(a:Int)∈H->(a:Int)∈roots)(b:Nat):(((Fz Ns (b:Int)).getD Zk).named).length<=18:=by
 rw[qba K f (λa h1 h2 e _=>m a h1 h2 e) b];by_cases d:P.Qd D (b:Int)=0
 ·rw[if_pos d];exact Nat.le_trans (q77 (q1y K.Ze d)) (by omega)
 ·rw[if_neg d];exact Nat.zero_le _
end
def Y2 (w:World)(g n c:Nat)(l:List Bool):Prop:=w.ownsRow 0 4 1 (.slice (some ⟨g,0,none⟩) n c) n (l.map Value.bool)
section
variable {w w':World}{g n c:Nat}{l:List Bool}
theorem Y2.len (h:Y2 w g n c l):l.length=n:=by have:=h.1;simpa using this
theorem Y2.lt (h:Y2 w g n c l):g<w.1.size:=by
 rcases h.2 with⟨d,_⟩|⟨m,cap,e,d,_,f,_⟩
 ·injection d with b;cases b
 ·injection d with b;injection b with b;injection b with b;subst b;exact (Array.getElem?_eq_some_iff.1 f).1
theorem Y2.keep (h:Y2 w g n c l)(hk:w'.1[g]?=w.1[g]?):Y2 w' g n c l:=q2c h λq b=>by
 have:q=g:=by
  have:(Value.slice (some ⟨g,0,none⟩) n c).ownBlock=some g:=rfl;rw[this] at b;exact (Option.some.inj b).symm
 rw[this];exact hk
theorem Y2.at_ (h:Y2 w g n c l){j:Nat}(hj:j<n):w.cell? ⟨g,j,none⟩=some (.bool (l.getD j false))/\w.frozen? ⟨g,j,none⟩=false:=by
 have b:=h.len;refine⟨?_,World.ownsRow.frozenAt h j⟩;rw[World.ownsRow.cellAt h j (by omega),List.getElem?_map,List.getElem?_eq_getElem (by omega),List.getD_eq_getElem?_getD,List.getElem?_eq_getElem (by omega)];rfl
theorem Y2.Uj (h:Y2 w g n c l)(j:Nat)(x:Bool):Y2 (w.setCell ⟨g,j,none⟩ (.bool x)) g n c (l.set j x):=by
 unfold Y2;rw[List.map_set];exact (World.ownsRow.stored h j (.bool x)).1
end
theorem Qa5:Aa Tryz.prog 52 4 1 1 (.bool false):=⟨Tryz.underlying52,by kernel_rfl,rfl,by omega⟩
theorem qrq (n:Nat):(madeCells (Value.bool false).cells (n*1)).toList=(List.replicate n false).map Value.bool:=by
 rw[show (Value.bool false).cells=#[.bool false] from rfl,Nat.mul_one,toList_madeCells_one];simp
theorem qeq {w:World}{ops:Array Oper}{b:List Oper}{o:Oper}{a:Act}{Q:Exit->Act->World->Prop}
  (F:o.guard=none) (l c:Operand) (f:o.op=Op.makeSlice 52 l c) (n:Nat) (I:a.eval l=.int .i64 (n:Int)) (E:a.eval c=.int .i64 (n:Int)) (M:n<=1000000)
  (B:∀w',Y2 w' w.1.size n n (List.replicate n false)->Below w.1.size w w'->wpList Tryz.prog ops Q b (a.put o.dst (.slice (some ⟨w.1.size,0,none⟩) n n)) w'):wpList Tryz.prog ops Q (o::b) a w:=
 wpList_plain F λK e=>by
  obtain⟨i,G,m,p,u⟩:=info_parts Qa5.info;obtain⟨w',d,y,J⟩:=run_make_full (P:=Tryz.prog) w w.1.size 52 4 i _ 1 Qa5.sl G m p .i64 .i64 n (by rw[u];omega) (by unfold maxLen;omega) (Nat.le_refl _);rw[qrq] at y;unfold Oper.wp;simp[execOp,f,I,E,d,Result.andThen];exact e _ _ (B w' (qgr y (Nat.zero_le _)) ((Below.refl _ _).grown J (Nat.le_refl _) (by simp)))
def U0 (bs:List Bool):Nat->Bool:=λb=>bs.getD b false
def q2y (bs:List Bool):Nat:=bs.countP λb=>!b
theorem qv7 {bs:List Bool}{q:Nat}(d:q<bs.length):U0 (bs.set q true)=see (U0 bs) q:=by
 funext b
 unfold U0 see;by_cases e:b=q
 ·subst e;rw[if_pos rfl,List.getD_eq_getElem?_getD,List.getElem?_set_self d];rfl
 ·rw[if_neg e,List.getD_eq_getElem?_getD,List.getElem?_set_ne (λh=>e h.symm)];exact (List.getD_eq_getElem?_getD ..).symm
theorem qd6:∀{bs:List Bool} {q:Nat},q<bs.length->U0 bs q=false->q2y (bs.set q true)+1=q2y bs
 |[],q,hq,_=>absurd hq (Nat.not_lt_zero _)
 |b::bs,0,_,h=>by
  have h:b=false:=h;subst h;unfold q2y;simp
 |b::bs,q+1,hq,h=>by
  have d:=qd6 (bs:=bs) (q:=q) (Nat.lt_of_succ_lt_succ hq) h;unfold q2y at d ⊢;rw[List.set_cons_succ,List.countP_cons,List.countP_cons];omega
def qj6 (w:World)(g:Nat):Nat:=(List.range 2048).countP λb=>match w.cell? ⟨g,b,none⟩ with
 |some (.bool false)=>true
 |_=>false
theorem qbb:∀(bs:List Bool),(List.range bs.length).countP (λb=>!(bs.getD b false))=q2y bs
 |[]=>rfl
 |b::bs=>by
  have d:=qbb bs;rw[List.length_cons,List.range_succ_eq_map,List.countP_cons,List.countP_map];unfold q2y at d ⊢;rw[List.countP_cons,<-d];rfl
theorem q1u {w:World}{g c:Nat}{bs:List Bool}(h:Y2 w g 2048 c bs):qj6 w g=q2y bs:=by
 rw[<-qbb,h.len];unfold qj6;refine List.countP_congr λb d=>?_
 have d:=List.mem_range.1 d;rw[(h.at_ d).1]
 cases bs.getD b false<;>simp
theorem Xt.turned {Q:World->Prop}{w w':World}{base n c:Nat}{A:Option Addr}{Ns:List (Int × Nd)}(h:Xt Q w base A n c Ns){S:Nat->Prop}(T:Turn S w w')(hA:∀k,q01 A=some k->¬S k):Xt Q w' base A n c Ns:=by
 obtain⟨b,h1,h2,d⟩:=h;exact⟨b,h1.turned T hA,h2,d⟩
theorem Xt.Qc {Q:World->Prop}{w:World}{base n c:Nat}{A:Option Addr}{Ns:List (Int × Nd)}(h:Xt Q w base A n c Ns):∀k,q01 A=some k->base<=k/\k<w.1.size:=by
 obtain⟨b,h1,_⟩:=h;exact h1.Qc
theorem qer {Q:World->Prop}{w:World}{ops:Array Oper}{f:List Oper}{o:Oper}{a:Act}{Y:Exit->Act->World->Prop}(W:o.guard=none)(X x:Operand)
  (ho:o.op=.call { callee:=.builtin .append,args:=#[X,x],argTypes:=#[141,141] })
  (base:Nat) (A:Option Addr) (n c:Nat) (Ns:List (Int × Nd)) (hs:a.eval X=.slice A n c) (J:Xt Q w base A n c Ns)
  (B:Option Addr) (d:Nat) (N:Int × Nd) (r:List Value) (p:a.eval x=.slice B 1 d) (b:Js w 4 B 1 d [r]) (Z:Ld Q r N) (hn:n<=100000) (m:base<=w.1.size)
  (h:∀F M w',Xt Q w' base F (n+1) M (Ns++[N])->Turn (λk=>q01 A=some k) w w'->(q01 F=q01 A\/q01 F=some w.1.size)->wpList Tryz.prog ops Y f (a.put o.dst (.slice F (n+1) M)) w'):wpList Tryz.prog ops Y (o::f) a w:=by
 obtain⟨E,h1,h2,h3⟩:=J;have I:∀y∈[r],∀u∈y,u.oneCell'=true:=by
  obtain⟨A1,n1,c1,B1,m1,d1,e,_⟩:=Z;subst e;exact qvk _ _ _ _ _ _ _ _
 refine q4d w TAn W X x ho base A n c E hs h1 B 1 d [r] p b (by omega) I (by omega) (by omega) m ?_;intro F M w' K T U _;refine h F M w' ⟨_,K,by simp[h2],λj r' x b p=>?_⟩ T U;by_cases hj:j<E.length
 ·rw[List.getElem?_append_left hj] at b;rw[List.getElem?_append_left (by omega)] at p;exact h3 j r' x b p
 ·rw[List.getElem?_append_right (by omega)] at b p;have G:j-E.length=0:=by
   have:=(List.getElem?_eq_some_iff.1 b).1;simp at this;omega
  rw[G] at b;rw[<-h2,G] at p;obtain rfl:r=r':=by simpa using b
  obtain rfl:N=x:=by simpa using p
  exact Z
theorem qbv {w:World}{ops:Array Oper}{e:List Oper}{o:Oper}{a:Act}{Q:Exit->Act->World->Prop}(G:o.guard=none)(I x:Operand)
  (K:o.op=.call { callee:=.builtin .append,args:=#[I,x],argTypes:=#[67,67] })
  (base:Nat) (A:Option Addr) (n c:Nat) (zs:List Int) (U:a.eval I=.slice A n c) (p:Qo w base 3 1 A n c (zs.map iv))
  (B:Option Addr) (d:Nat) (y:Int) (X:a.eval x=.slice B 1 d) (M:Vw w B 1 d [y]) (hn:n<=900000) (f:base<=w.1.size)
  (h:∀m E w',Qo w' base 3 1 m (n+1) E ((zs++[y]).map iv)->Turn (λk=>q01 A=some k) w w'->(q01 m=q01 A\/q01 m=some w.1.size)->wpList Tryz.prog ops Q e (a.put o.dst (.slice m (n+1) E)) w'):wpList Tryz.prog ops Q (o::e) a w:=by
 refine q4d w Fp G I x K base A n c (zs.map iv) U p B 1 d ([y].map iv) X M (by omega) (λz Y u W=>?_) (by omega) (by decide) f ?_
 ·obtain⟨J,_,rfl⟩:=List.mem_map.1 Y;exact qdf J (iv J) (List.mem_cons_self ..) u W
 ·intro m E w' b T F _;rw[<-List.map_append] at b;exact h m E w' b T F
theorem qes {Dt:Nat->Prop}{w w' v:World}(b:Below w.1.size w w')(d:Dq Dt w' v):Dq Dt w v:=q4f (Qu (S:=λ_=>False) b) (λ_ h=>h.elim) d
structure Yz (base gs:Nat)(w:World)(A:Option Addr)(n c:Nat)(todo:List Int)(O:Option Addr)(on oc:Nat)(Ns:List (Int × Nd))(bs:List Bool)(Dt:Nat->Prop):Prop where
 row:Qo w base 3 1 A n c (todo.map iv)
 rowA:∀k,q01 A=some k->k≠gs/\¬Dt k/\q01 O≠some k
 out_:Xt (Dq Dt w) w base O on oc Ns
 outA:∀k,q01 O=some k->k≠gs/\¬Dt k
 Xh:Y2 w gs 2048 2048 bs
 gsA:base<=gs/\¬Dt gs
 dt:∀k,Dt k->base<=k/\k<w.heap.size
 Tf:base<=w.heap.size
section
variable {base gs:Nat}{w w':World}{A O:Option Addr}{n c on oc:Nat}{todo:List Int}{Ns:List (Int × Nd)}{bs:List Bool}{Dt:Nat->Prop}
theorem Yz.below (h:Yz base gs w A n c todo O on oc Ns bs Dt)(hb:Below w.1.size w w'):Yz base gs w' A n c todo O on oc Ns bs Dt:=
 ⟨h.row.below hb,h.rowA,(h.out_.below hb).mono λv d=>qes hb d,h.outA,h.Xh.keep (hb.block gs h.Xh.lt),h.gsA,λk b=>⟨(h.dt k b).1,by have:=(h.dt k b).2;have:=hb.size;omega⟩,Nat.le_trans h.Tf hb.size⟩
theorem Yz.len (h:Yz base gs w A n c todo O on oc Ns bs Dt):todo.length=n:=by have:=h.row.len (by omega);rwa [List.length_map] at this
theorem Yz.Qau (h:Yz base gs w A n c todo O on oc Ns bs Dt):Vw w A n c todo:=h.row.Kt (by omega)
theorem Yz.newRow (h:Yz base gs w A n c todo O on oc Ns bs Dt)(hb:Below w.1.size w w'){A':Option Addr}{n' c':Nat}{todo':List Int}(own:Qo w' w.1.size 3 1 A' n' c' (todo'.map iv)):Yz base gs w' A' n' c' todo' O on oc Ns bs Dt:=by
 have h2:=h.below hb;refine⟨own.less h.Tf,λk b=>?_,h2.out_,h2.outA,h2.Xh,h2.gsA,h2.dt,h2.Tf⟩;have h1:=(own.Qc k b).1;exact⟨by have:=h.Xh.lt;omega,λhd=>by have:=(h.dt k hd).2;omega,λd=>by have:=(h.out_.Qc k d).2;omega⟩
theorem Yz.see (h:Yz base gs w A n c todo O on oc Ns bs Dt)(q:Nat):Yz base gs (w.setCell ⟨gs,q,none⟩ (.bool true)) A n c todo O on oc Ns (bs.set q true) Dt:=by
 have T:Turn (λk=>k=gs) w (w.setCell ⟨gs,q,none⟩ (.bool true)):=Dy _ rfl;refine⟨h.row.turned T λk b e=>(h.rowA k b).1 e,h.rowA,(h.out_.turned T λk b e=>(h.outA k b).1 e).mono λv d=>q4f T (λk e hd=>h.gsA.2 (e▸hd)) d,h.outA,h.Xh.Uj q true,h.gsA,λk b=>⟨(h.dt k b).1,by have:=(h.dt k b).2;have:=T.size;omega⟩,Nat.le_trans h.Tf T.size⟩
theorem Yz.node (h:Yz base gs w A n c todo O on oc Ns bs Dt)(hb:Below w.1.size w w'):Yz base gs w' A n c todo O on oc Ns bs (λk=>Dt k\/(w.1.size<=k/\k<w'.1.size)):=by
 have h2:=h.below hb;have f:=h.Xh.lt;refine⟨h2.row,λk b=>⟨(h.rowA k b).1,λhd=>hd.elim (h.rowA k b).2.1 λd=>by have:=(h.row.Qc k b).2;omega,(h.rowA k b).2.2⟩,h2.out_.mono λv e=>qqn e λk b=>.inl b,λk b=>⟨(h.outA k b).1,λhd=>hd.elim (h.outA k b).2 λd=>by have:=(h.out_.Qc k b).2;omega⟩,h2.Xh,⟨h.gsA.1,λhd=>hd.elim h.gsA.2 λd=>by omega⟩,λk b=>?_,h2.Tf⟩;rcases b with b|b
 ·exact h2.dt k b
 ·exact⟨by have:=h.Tf;omega,b.2⟩
theorem Yz.found (h:Yz base gs w A n c todo O on oc Ns bs Dt){O':Option Addr}{on' oc':Nat}{N:Int × Nd}(own:Xt (Dq Dt w) w' base O' on' oc' (Ns++[N]))(T:Turn (λk=>q01 O=some k) w w')(hO:q01 O'=q01 O\/q01 O'=some w.1.size):Yz base gs w' A n c todo O' on' oc' (Ns++[N]) bs Dt:=by
 have m:=T.size;have d:∀k,q01 O'=some k->(q01 O=some k\/k=w.1.size):=λk b=>by
  rcases hO with e|e
  ·exact .inl (e▸b)
  ·rw[e] at b;exact .inr (Option.some.inj b).symm
 refine⟨h.row.turned T λk b e=>(h.rowA k b).2.2 e,λk b=>⟨(h.rowA k b).1,(h.rowA k b).2.1,λe=>?_⟩,own.mono λv f=>q4f T (λk b=>(h.outA k b).2) f,λk b=>?_,h.Xh.keep (T.block gs h.Xh.lt λe=>(h.outA gs e).1 rfl),h.gsA,λk b=>⟨(h.dt k b).1,by have:=(h.dt k b).2;omega⟩,Nat.le_trans h.Tf m⟩
 ·rcases d k e with e|e
  ·exact (h.rowA k b).2.2 e
  ·have:=(h.row.Qc k b).2;omega
 ·rcases d k b with e|e
  ·exact h.outA k e
  ·subst e;exact⟨by have:=h.Xh.lt;omega,λhd=>by have:=(h.dt _ hd).2;omega⟩
theorem Yz.push (h:Yz base gs w A n c todo O on oc Ns bs Dt){A':Option Addr}{n' c':Nat}{todo':List Int}(own:Qo w' base 3 1 A' n' c' (todo'.map iv))(T:Turn (λk=>q01 A=some k) w w')(hA:q01 A'=q01 A\/q01 A'=some w.1.size):Yz base gs w' A' n' c' todo' O on oc Ns bs Dt:=by
 have p:=T.size;have d:∀k,q01 A'=some k->(q01 A=some k\/k=w.1.size):=λk b=>by
  rcases hA with e|e
  ·exact .inl (e▸b)
  ·rw[e] at b;exact .inr (Option.some.inj b).symm
 refine⟨own,λk b=>?_,(h.out_.turned T λk b e=>(h.rowA k e).2.2 b).mono λv m=>q4f T (λk b=>(h.rowA k b).2.1) m,h.outA,h.Xh.keep (T.block gs h.Xh.lt λe=>(h.rowA gs e).1 rfl),h.gsA,λk b=>⟨(h.dt k b).1,by have:=(h.dt k b).2;omega⟩,Nat.le_trans h.Tf p⟩;rcases d k b with e|e
 ·exact h.rowA k e
 ·subst e;exact⟨by have:=h.Xh.lt;omega,λhd=>by have:=(h.dt _ hd).2;omega,λf=>by have:=(h.out_.Qc _ f).2;omega⟩
end
theorem qnn {N:Nd}(h:N.may=true):N.kids.length<=12:=(q26 h).2.1
