/- The reference's counts: Body -/
import Derived.Test.YthkfkhejjmhomaaGreatDoorEs17
namespace Go.Proofs.YthkfkhejjmhomaaGreatDoor
open Go Go.RowKit Go.Proofs
set_option maxHeartbeats 4000000
set_option maxRecDepth 10000
def Ct.Zw (C:Ct)(m:Int):Nat->List UInt8
 |0=>[]
 |k+1=>C.Zw m k++Zc (C.get (m+(k:Int))) 2
theorem Ct.J6 (C:Ct)(m:Int)(k:Nat):(C.Zw m k).length=2*k:=by
 induction k with
 |zero=>rfl
 |succ k ih=>show (C.Zw m k++Zc _ 2).length=_;rw[List.length_append,ih,Ya];omega
def Ct.body (C:Ct)(i:Int):List UInt8:=if 0<=i/\i<(Ql C.n:Int) then C.Zw (i*118) 118 else []
section
def F5 (l:List UInt8)(k:Nat):Int:=Za ((l.drop (2*k)).take 2)
def Yq (n f i:Nat)(l:List UInt8)(k:Nat):Bool:=decide (F5 l k≠0/\(i*118+k<f\/n<=i*118+k))
def Yd (n i:Nat)(l:List UInt8)(C:Ct):Nat->Ct
 |0=>C
 |k+1=>if i*118+k<n then (Yd n i l C k).put (i*118+k) (F5 l k) else Yd n i l C k
def q4s (n f i:Nat)(l:List UInt8):Prop:=l.length=236/\∀k,k<118->Yq n f i l k=false
def Yv (n:Nat)(b:List (List UInt8)):Nat->Ct
 |0=>Ct.zero n
 |i+1=>Yd n i (nth b i) (Yv n b i) 118
open Classical in
noncomputable def J9 (n:Int) (b:List (List UInt8)):Int:=if ¬(32<=n/\n<=2048) then 1 else if b.length≠Ql n.toNat\/¬∀i,i<Ql n.toNat->q4s n.toNat (2+2*Ql n.toNat) i (nth b i) then 3 else 0
def Vr (n:Nat)(b:List (List UInt8)):Ct:=(Yv n b (Ql n)).commit
theorem qi2 (n i:Nat)(l:List UInt8)(C:Ct)(k:Nat):(Yd n i l C k).n=C.n:=by
 induction k with
 |zero=>rfl
 |succ k ih=>unfold Yd;split;rw[Ct.Zf,ih];exact ih
theorem qab (n:Nat)(b:List (List UInt8))(i:Nat):(Yv n b i).n=n:=by
 induction i with
 |zero=>exact Ct.Zi n
 |succ i ih=>exact (qi2 _ _ _ _ _).trans ih
end
theorem qi3 (C:Ct)(m:Int)(n k:Nat)(h:k<n):((C.Zw m n).drop (2*k)).take 2=Zc (C.get (m+(k:Int))) 2:=by
 induction n with
 |zero=>omega
 |succ n ih=>
  show ((C.Zw m n++Zc (C.get (m+(n:Int))) 2).drop (2*k)).take 2=_;by_cases b:k<n
  ·rw[List.drop_append_of_le_length (by rw[C.J6];omega),List.take_append_of_le_length (by rw[List.length_drop,C.J6];omega)];exact ih b
  ·obtain rfl:k=n:=by omega
   rw[List.drop_append,List.drop_eq_nil_of_le (by rw[C.J6];omega),C.J6,Nat.sub_self,List.nil_append,List.drop_zero,List.take_of_length_le (by rw[Ya];omega)]
theorem Ct.Td {C:Ct}(h:C.ok){i k:Nat}(hi:i<Ql C.n)(hk:k<118):F5 (C.body (i:Int)) k=C.get ((i:Int)*118+(k:Int)):=by
 have b:C.body (i:Int)=C.Zw ((i:Int)*118) 118:=by unfold Ct.body;rw[if_pos ⟨by omega,by omega⟩]
 unfold F5;rw[b,qi3 C _ 118 k hk];have h1:=C.Zd h ((i:Int)*118+(k:Int));exact q9e _ 2 h1.1 (by have:=h1.2;simp;omega)
theorem Ct.Ue {C:Ct}{i:Nat}(hi:i<Ql C.n):(C.body (i:Int)).length=236:=by
 unfold Ct.body;rw[if_pos ⟨by omega,by omega⟩,C.J6]
theorem q4t (C:Ct)(k:Nat)(x:Int)(a:Nat)(b:a<C.n):nm (C.put k x).now a=if a=k then x else nm C.now a:=by
 show nm (C.now.set k x) a=_;by_cases h:a=k
 ·subst h;rw[if_pos rfl,q6b _ _ _ b]
 ·rw[if_neg h,q34 _ _ _ _ (λe=>h e.symm)]
theorem qfg (i:Nat)(l:List UInt8)(C:Ct)(k a:Nat)(d:a<C.n):nm (Yd C.n i l C k).now a=if i*118<=a/\a<i*118+k then F5 l (a-i*118) else nm C.now a:=by
 induction k with
 |zero=>rw[if_neg (by omega)];rfl
 |succ k ih=>
  unfold Yd;by_cases b:i*118+k<C.n
  ·rw[if_pos b,q4t _ _ _ _ (by rw[qi2];exact d),ih];by_cases e:a=i*118+k
   ·rw[if_pos e,if_pos (by omega),show a-i*118=k by omega]
   ·rw[if_neg e];by_cases h2:i*118<=a/\a<i*118+k
    ·rw[if_pos h2,if_pos (by omega)]
    ·rw[if_neg h2,if_neg (by omega)]
  ·rw[if_neg b,ih];by_cases h2:i*118<=a/\a<i*118+k
   ·rw[if_pos h2,if_pos (by omega)]
   ·rw[if_neg h2,if_neg (by omega)]
theorem qac (n:Nat)(b:List (List UInt8))(i a:Nat)(d:a<n):nm (Yv n b i).now a=if a<i*118 then F5 (nth b (a / 118)) (a % 118) else 0:=by
 induction i with
 |zero=>
  rw[if_neg (by omega)];show nm (List.replicate n 0) a=0;unfold nm;simp[d]
 |succ i ih=>
  have h:=qfg i (nth b i) (Yv n b i) 118 a (by rw[qab];exact d);rw[qab,ih] at h;refine (show nm (Yv n b (i+1)).now a=_ from h).trans ?_;by_cases h1:i*118<=a/\a<i*118+118
  ·rw[if_pos h1,if_pos (by omega),show a / 118=i by omega,show a % 118=a-i*118 by omega]
  ·rw[if_neg h1];by_cases h2:a<i*118
   ·rw[if_pos h2,if_pos (by omega)]
   ·rw[if_neg h2,if_neg (by omega)]
def Ct.res (C:Ct):Prop:=∀a,a<C.n->a<C.first->nm C.now a=0
def Ct.bodies (C:Ct):List (List UInt8):=(List.range (Ql C.n)).map λ(i:Nat)=>C.body (i:Int)
theorem Ct.Dw (C:Ct){i:Nat}(h:i<Ql C.n):nth C.bodies i=C.body (i:Int):=by
 unfold nth Ct.bodies;rw[List.getD_eq_getElem?_getD,List.getElem?_map,List.getElem?_range h];rfl
theorem Ct.Ox {C:Ct}(h:C.ok)(hr:C.res){i:Nat}(hi:i<Ql C.n):q4s C.n (2+2*Ql C.n) i (nth C.bodies i):=by
 rw[C.Dw hi];refine⟨Ct.Ue hi,λk b=>?_⟩;unfold Yq;rw[Ct.Td h hi b];refine decide_eq_false ?_;rintro⟨h1,h2⟩;refine h1 ?_;unfold Ct.get;split
 ·rename_i d;have e:((i:Int)*118+(k:Int)).toNat=i*118+k:=by omega
  rw[e];rcases h2 with h2|h2
  ·exact hr _ (by omega) h2
  ·omega
 ·rfl
theorem Ct.Md {C:Ct}(h:C.ok)(hr:C.res):J9 (C.n:Int) C.bodies=0/\Vr C.n C.bodies=C.commit:=by
 have B:C.bodies.length=Ql C.n:=by unfold Ct.bodies;rw[List.length_map,List.length_range]
 constructor
 ·unfold J9;rw[Int.toNat_natCast,if_neg (λe=>e (by have:=h.1;omega)),if_neg];rintro (e|e)
  ·exact e B
  ·exact e λi A=>Ct.Ox h hr A
 ·have m:(Yv C.n C.bodies (Ql C.n)).now=C.now:=by
   have h1:(Yv C.n C.bodies (Ql C.n)).now.length=C.now.length:=qab _ _ _;refine List.ext_getElem h1 λa p d=>?_
   have y:a<C.n:=d;have b:=qac C.n C.bodies (Ql C.n) a y;have f:a / 118<Ql C.n:=by unfold Ql;omega
   rw[if_pos (by unfold Ql;omega),C.Dw f,Ct.Td h f (Nat.mod_lt _ (by omega))] at b;have u:((a / 118:Nat):Int)*118+((a % 118:Nat):Int)=(a:Int):=by omega
   rw[u] at b;unfold Ct.get at b;rw[if_pos ⟨by omega,by omega⟩,Int.toNat_natCast] at b;unfold nm at b;simpa [p,d] using b
  unfold Vr Ct.commit;simp only[m]
theorem Ct.Bc {C D:Ct}(h:D.n=C.n):D.first=C.first:=by unfold Ct.first;rw[h]
theorem Ct.Ah {C:Ct}(h:C.res){k:Nat}(x:Int)(hk:C.first<=k):(C.put k x).res:=λa b d=>by
 rw[C.Zf] at b;rw[Ct.Bc (C.Zf k x)] at d;rw[q4t C k x a b,if_neg (by omega)];exact h a b d
theorem Ct.Vf {C:Ct}(h:C.res){a:Int}(hg:¬C.get a=0):0<=a/\a<(C.n:Int)/\C.first<=a.toNat:=by
 obtain⟨h1,h2,d⟩:=Ct.Ei hg;refine⟨h1,h2,?_⟩;rcases Nat.lt_or_ge a.toNat C.first with b|b
 ·exact absurd (d.trans (h a.toNat (by omega) b)) hg
 ·exact b
theorem Ct.J4 {C:Ct}{k:Nat}(h:C.pick=some k):k<C.n/\C.first<=k/\nm C.now k=0/\nm C.done k=0/\∀j,j<k->C.may j=false:=by
 unfold Ct.pick at h;rw[List.find?_range_eq_some] at h;obtain⟨h1,h2,b⟩:=h;unfold Ct.may Ct.Vg at h1;rw[Bool.and_eq_true,decide_eq_true_iff,decide_eq_true_iff] at h1;exact⟨List.mem_range.1 h2,h1.1,h1.2.1,h1.2.2,λj d=>by have:=b j d;simpa using this⟩
theorem Ct.Qah {C:Ct}(h:C.pick=none):∀j,j<C.n->C.may j=false:=λj b=>by
 unfold Ct.pick at h;rw[List.find?_eq_none] at h;have:=h j (List.mem_range.2 b);simpa using this
theorem Ct.X0 {C:Ct}(h:C.pick=none):C.free=0:=by
 unfold Ct.free Ct.J3;rw[List.countP_eq_zero];intro j b;rw[Ct.Qah h j (List.mem_range.1 b)];simp
theorem Ct.Ee (C:Ct):C.alloc.n=C.n:=by unfold Ct.alloc;split;exact C.Zf _ _;rfl
theorem Ct.Qbc (C:Ct)(a:Int):(C.ref a).n=C.n:=by unfold Ct.ref;split;exact C.Zf _ _;rfl
theorem Ct.Fa (C:Ct)(a:Int):(C.Qj a).n=C.n:=by unfold Ct.Qj;split;rfl;exact C.Zf _ _
theorem Ct.Sv {C:Ct}(h:C.ok):C.alloc.ok:=by unfold Ct.alloc;split;exact Ct.Bv h _ _ (by omega) (by omega);exact h
theorem Ct.Ov {C:Ct}(h:C.res):C.alloc.res:=by
 unfold Ct.alloc;split
 ·rename_i k b;exact Ct.Ah h _ (Ct.J4 b).2.1
 ·exact h
theorem Ct.Qaz {C:Ct}(h:C.res)(a:Int):(C.ref a).res:=by
 unfold Ct.ref;split
 ·rename_i b;have d:¬C.get a=0:=λe=>by unfold Ct.Yg at b;rw[if_pos e] at b;omega
  exact Ct.Ah h _ (Ct.Vf h d).2.2
 ·exact h
theorem Ct.Pz {C:Ct}(h:C.res)(a:Int):(C.Qj a).res:=by
 unfold Ct.Qj;split
 ·exact h
 ·rename_i b;exact Ct.Ah h _ (Ct.Vf h b).2.2
theorem Ct.Qay {C:Ct}(h:C.ok)(a:Int):(C.ref a).ok:=by
 unfold Ct.ref;split
 ·rename_i b;have d:=C.Zd h a;refine Ct.Bv h _ _ (by omega) ?_;unfold Ct.Yg at b;split at b
  ·omega
  ·split at b<;>omega
 ·exact h
theorem Ct.Py {C:Ct}(h:C.ok)(a:Int):(C.Qj a).ok:=by
 unfold Ct.Qj;split
 ·exact h
 ·have b:=C.Zd h a;exact Ct.Bv h _ _ (by omega) (by omega)
theorem Ct.Io (n:Nat):(Ct.zero n).res:=λa b _=>by
 rw[Ct.Zi] at b;show nm (List.replicate n 0) a=0;unfold nm;simp[b]
theorem Ct.Nc (C:Ct)(j:Nat):C.may j=decide (C.first<=j/\nm C.now j=0/\nm C.done j=0):=by
 unfold Ct.may Ct.Vg;rw[Bool.eq_iff_iff];simp
theorem qtf (n:Int)(h:n<32\/2048<n)(w:World) :
  Calls Tryz.prog 89 #[.int .i64 n] w λe b=>e=.returned (.tuple #[.pointer none,.int .i64 1])/\w=b:=by
 by_cases h1:n<32
 ·go_enter Tryz.func89,Tryz.ntmps89
  go_wp2;go_ret2;exact⟨rfl,rfl⟩
 ·have h2:2048<n:=by omega
  go_enter Tryz.func89,Tryz.ntmps89
  go_wp2;go_ret2;exact⟨rfl,rfl⟩
section
attribute [local go_sem ↓] qk0
theorem qdu (n:Nat)(h1:32<=n)(h2:n<=2048)(w:World) :
  Calls Tryz.prog 89 #[.int .i64 (n:Int)] w λe G=>∃p,e=.returned (.tuple #[.pointer (some ⟨p,0,none⟩),.int .i64 0])/\Yu G p 0 (λk=>w.1.size<=k) (Ct.zero n)/\w.1.size<=p/\Below w.1.size w G:=by
 have H:¬(n:Int)<32:=by omega
 have I:¬(2048:Int)<(n:Int):=by omega
 have hn:n<=1000000:=by omega
 obtain⟨m,hm⟩:∃m,Ql n=m:=⟨_,rfl⟩;have D:=Lib.hid hm;have b:=Lib.hid (show ((Ct.zero n).first:Int)=2+2*(m:Int) by unfold Ct.first;rw[Ct.Zi,hm];omega);clear hm;have F:=qoq n hn w.drew;have B:=qoq n hn (Vy n w.drew);rw[q3g] at B;have d:w.drew.1.size=w.1.size:=rfl;rw[d] at F B;go_enter Tryz.func89,Tryz.ntmps89
 go_wp2_with fail
 refine (qda (n:Int) n rfl (by omega) m D.out w).mono ?_;rintro e K ⟨rfl,rfl⟩;go_wp2_with fail
 go_region
 all_goals (
  have u:Je (Vy n (Vy n w.drew)) (w.1.size+1) n n (List.replicate n 0):=by
   have:=qk1 n hn (Vy n w.drew);rw[q3g,d] at this;exact this
  have f:Je (Vy n (Vy n w.drew)) w.1.size n n (List.replicate n 0):=by
   have h:=qk1 n hn w.drew;rw[d] at h;exact h.keep (heap_alloc_old (Vy n w.drew) _ (by rw[q3g,d];omega))
  have A:Below w.1.size w (Vy n (Vy n w.drew)):=((Below.refl _ _).drew.trans (qc2 n _ _ (Nat.le_refl _))).trans (qc2 n _ _ (by rw[q3g,d];omega));have y:(Vy n (Vy n w.drew)).1.size=w.1.size+2:=by rw[q3g,q3g,d]
  clear F B;generalize Vy n (Vy n w.drew)=W at f u A y ⊢;go_wp2_with fail
  go_ret2;rw[y];refine⟨w.1.size+2,rfl,?_,by omega,A.alloc A.size _⟩;have J:=(Ct.Zi n).symm;have hF:=b.out;have E:=D.out;first
   |exact⟨w.1.size,n,w.1.size+1,n,_,_,by rw[<-y];exact heap_alloc_new W _,⟨by rw[Ct.Zi];rfl,by rw[Ct.Zi];rfl,by rw[Ct.Zi,E];rfl,by rw[hF];rfl⟩,by rw[Ct.Zi];exact f.keep (heap_alloc_old W _ f.lt),by rw[Ct.Zi];exact u.keep (heap_alloc_old W _ u.lt),⟨by omega,by omega,by omega⟩,⟨by dsimp only;omega,by dsimp only;omega⟩,Ct.Aj h1 h2⟩
   |exact⟨w.1.size+1,n,w.1.size,n,_,_,by rw[<-y];exact heap_alloc_new W _,⟨by rw[Ct.Zi];rfl,by rw[Ct.Zi];rfl,by rw[Ct.Zi,E];rfl,by rw[hF];rfl⟩,by rw[Ct.Zi];exact u.keep (heap_alloc_old W _ u.lt),by rw[Ct.Zi];exact f.keep (heap_alloc_old W _ f.lt),⟨by omega,by omega,by omega⟩,⟨by dsimp only;omega,by dsimp only;omega⟩,Ct.Aj h1 h2⟩
   |fail)
end
theorem Qbn (A:Option Addr)(m k c:Nat)(l:List UInt8)(w:World)(h:Sl w A m c l)(E:m=k+2)(hm:m<=100000)(y:Nat)(B:Za (l.take 2)=y) :
  Calls Tryz.prog 151 #[.slice A m c,.int .i64 2] w λe f=>∃b d,e=.returned (.tuple #[.int .i64 (y:Int),.slice b k d,.int .i64 0])/\Below w.1.size w f:=by
 subst B;refine (q7f A m c l 2 w h (by omega) (by omega) (by omega) (by omega)).mono ?_;rintro e f ⟨b,D,d,rfl,own,u⟩;have p:=own.len;rw[List.length_drop,h.len] at p;have:D=k:=by have:(2:Int).toNat=2:=rfl;omega
 subst this;exact⟨b,d,rfl,u⟩
theorem q6y {w w':World}{A:Option Addr}{n c:Nat}{l:List UInt8}(h:Sl w A n c l){S:Nat->Prop}(T:Turn S w w')(f:∀b,A=some b->¬S b.block):Sl w' A n c l:=
 ⟨h.1,h.2.1,h.2.2.1,λj u p=>by
  obtain⟨b,e,d,m⟩:=h.2.2.2 j u p;exact⟨b,e,Nat.lt_of_lt_of_le d T.size,(World.cell?_of_block (a:=b.add j) (by rw[Nl];exact T.block _ d (f b e))).trans m⟩⟩
theorem qm7 (C:Ct)(k:Nat)(b:k<C.n)(h:nm C.now k=0):C.put k 0=C:=by
 have e:C.now.set k 0=C.now:=by
  have h1:C.now[k]'b=0:=by
   unfold nm at h;rw[List.getD_eq_getElem?_getD,List.getElem?_eq_getElem b] at h;exact h
  rw[<-h1];exact List.set_getElem_self b
 unfold Ct.put;simp only[e]
theorem qor {w:World}{p:Nat}{S:Nat->Prop}{C:Ct}(H:Yu w p 0 S C)(i:Nat)(hi:i<=1000)(A:Option Addr)(c:Nat)(l:List UInt8)(hs:Sl w A 236 c l)(hA:∀ad,A=some ad->¬S ad.block)(hz:∀a,i*118<=a->a<C.n->nm C.now a=0) :
  Calls Tryz.prog 249 #[.pointer (some ⟨p,0,none⟩),.int .i64 (i:Int),.slice A 236 c] w λe w'=>((e=.returned (.bool true)/\(∀k,k<118->Yq C.n C.first i l k=false)/\Yu w' p 0 S (Yd C.n i l C 118))\/(e=.returned (.bool false)/\∃k,k<118/\Yq C.n C.first i l k=true))/\Turn S w w':=by
 have Hs:=Lib.hid hs;have HA:=Lib.hid hA;have Hz:=Lib.hid hz;have b3:=hs.cap;have a2:=hs.max;unfold maxLen at a2;have c6:=H.ok.1;clear hs hA hz;go_enter Tryz.func249,Tryz.ntmps249
 go_wp2_with fail
 go_loopw [7,8,9,10,11,12] (λ_ _ _ _ _ k wr=>∃t:Nat,t<=118/\k=.int .i64 (t:Int)/\Yu wr p 0 S (Yd C.n i l C t)/\(∀q,q<t->Yq C.n C.first i l q=false)/\Turn S w wr) (λ_ _ _ _ _ k _=>118-(intOf k).toNat)
 case atStart=>exact⟨0,Nat.zero_le _,rfl,H,λq hq=>absurd hq (Nat.not_lt_zero _),Turn.refl _ _⟩
 case round=>
  clear H;obtain⟨t,ht,rfl,R,f,T⟩:=hrel;by_cases a9:t<118
  ·have e3:(t:Int)<118:=by omega
   have e0:(0:Int)<=(t:Int):=by omega
   obtain⟨b,hb⟩:∃b,2*t=b:=⟨_,rfl⟩;have b7:(t:Int)*2=(b:Int):=by omega
   have b8:b<=234:=by omega
   have a3:=q6y Hs.out T HA.out;have Q:=a3.drop (k:=b) (by omega);obtain⟨A2,a8⟩:∃A2,(if c=b then A else Option.map (λx=>x.add b) A)=A2:=⟨_,rfl⟩;rw[a8] at Q;have U:=Q.take (k:=2) (by omega);obtain⟨y,hy⟩:∃y,Za (((l.drop b).take 2).take 2)=y:=⟨_,rfl⟩;have hX:=Lib.hid (show F5 l t=(y:Int) by unfold F5;rw[hb,<-hy,List.take_take];rfl);have c7:y<65536:=by
    have h1:=q80 (((l.drop b).take 2).take 2);have h2:(((l.drop b).take 2).take 2).length=2:=by rw[List.length_take,U.len];rfl
    rw[h2,hy] at h1;exact h1
   have Hy:=Lib.hid hy;have a6:=Lib.hid U;have Hb:=Lib.hid hb;have K:=Lib.hid f;have E:(Yd C.n i l C t).n=C.n:=qi2 _ _ _ _ _;have F:(Yd C.n i l C t).first=C.first:=by unfold Ct.first;rw[E]
   obtain⟨a,ha⟩:∃a,i*118+t=a:=⟨_,rfl⟩;have b6:(i:Int)*118+(t:Int)=(a:Int):=by omega
   have b5:a<=200000:=by omega
   have W:a<C.n->nm (Yd C.n i l C t).now a=0:=λh=>by
    rw[qfg i l C t a h,if_neg (by omega)];exact Hz.out a (by omega) h
   have B:=Lib.hid (show Yq C.n C.first i l t=decide ((y:Int)≠0/\(a<C.first\/C.n<=a)) by unfold Yq;rw[hX.out,ha]);have d:=Lib.hid (show Yd C.n i l C (t+1)=if a<C.n then (Yd C.n i l C t).put a (y:Int) else Yd C.n i l C t by rw[<-hX.out,<-ha];rfl);have X:=Lib.hid (show (Yq C.n C.first i l t=false)->∀q,q<t+1->Yq C.n C.first i l q=false from λh q hq=>by
    by_cases e:q=t
    ·rw[e];exact h
    ·exact K.out q (by omega))
   obtain⟨u,Z⟩:∃u,Yd C.n i l C t=u:=⟨_,rfl⟩;rw[Z] at R E F W d;have a1:=Lib.hid (show u.counted a=decide (C.first<=a/\a<C.n) by unfold Ct.counted;rw[E,F]);have Y:=Lib.hid E;have b4:=Lib.hid F;have a7:=Lib.hid W;have Ha:=Lib.hid ha;have i1:2<=c-b:=by omega
   have i2:b<=236:=by omega
   have i3:b<=c:=by omega
   clear a3 Q U hy f Z E F W ha hb;go_wp2_with fail
   refine (Qbn A2 2 0 (c-b) _ wr a6.out rfl (by omega) y Hy.out).mono ?_;rintro e w4 ⟨A4,c4,rfl,a0⟩;have R4:=R.below a0;have T4:=T.then (Qu a0 |>.mono (S':=S) λk hk=>hk);clear R T;by_cases a5:y=0
   ·subst a5;have D:=Lib.hid (show Yq C.n C.first i l t=false by rw[B.out];simp);have P:=Lib.hid (show Yd C.n i l C (t+1)=u by
     rw[d.out];split
     ·rename_i h;exact qm7 u a (by rw[Y.out];exact h) (a7.out h)
     ·rfl)
    go_wp2;exact⟨⟨t+1,by omega,by go_num,by rw[P.out];exact R4,X.out D.out,T4⟩,by simp[intOf];omega⟩
   ·have c8:((y:Int)==0)=false:=by simpa using a5
    have b2:¬(y:Int)=0:=by omega
    by_cases m:C.first<=a/\a<C.n
    ·have M:=Lib.hid (show u.counted a=true by rw[a1.out];exact decide_eq_true m);have D:=Lib.hid (show Yq C.n C.first i l t=false by rw[B.out];exact decide_eq_false (by omega));have P:=Lib.hid (show Yd C.n i l C (t+1)=u.put a (y:Int) by rw[d.out,if_pos m.2]);have G:a<u.n:=by rw[Y.out];exact m.2
     obtain⟨g,cg,b0,cb,c0,c1,c2,c3,k1,k2,I,O,J⟩:=R4.open_;obtain⟨hc,b9⟩:=I a G;obtain⟨R5,T5,d0,d1⟩:=J a ((y:Nat):Int) G (by omega) (by omega);rw[<-P.out] at R5;have T6:=T4.then T5;have e8:(a:Int)<(u.n:Int):=by omega
     have e9:(0:Int)<=(a:Int):=by omega
     obtain⟨x0,a4⟩:∃x,nm u.now a=x:=⟨_,rfl⟩;rw[a4] at hc;clear a4 I O J c1 c2 c3 m;go_wp2_with fail
     refine (q29 R4 a true M.out).mono ?_;rintro e w5 ⟨rfl,rfl⟩;go_wp2;exact⟨⟨t+1,by omega,by go_num,R5,X.out D.out,T6⟩,by simp[intOf];omega⟩
    ·have M:=Lib.hid (show u.counted a=false by rw[a1.out];exact decide_eq_false m);have D:=Lib.hid (show Yq C.n C.first i l t=true by rw[B.out];exact decide_eq_true ⟨b2,by omega⟩);clear m;go_wp2_with fail
     refine (q29 R4 a false M.out).mono ?_;rintro e w5 ⟨rfl,rfl⟩;go_wp2;go_ret;exact⟨.inr ⟨rfl,t,a9,D.out⟩,T4⟩
  ·have b1:t=118:=by omega
   subst b1;go_wp2;go_ret;exact⟨.inl ⟨rfl,f,R⟩,T⟩
theorem qtg (n:Nat)(b:List (List UInt8))(h1:32<=n)(h2:n<=2048)(A:Option Addr)(m c:Nat){w:World}(H:Parts w A m c b)(hm:m=Ql n) :
  Calls Tryz.prog 222 #[.int .i64 (n:Int),.slice A m c] w λe w'=>(((∀i,i<Ql n->q4s n (2+2*Ql n) i (nth b i))/\∃p,e=.returned (.tuple #[.pointer (some ⟨p,0,none⟩),.int .i64 0])/\Yu w' p 0 (λk=>w.1.size<=k) (Vr n b)/\w.1.size<=p)\/
   ((¬∀i,i<Ql n->q4s n (2+2*Ql n) i (nth b i))/\e=.returned (.tuple #[.pointer none,.int .i64 3])))/\Below w.1.size w w':=by
 obtain⟨many,F⟩:∃k,Ql n=k:=⟨_,rfl⟩;have b4:many<=1000:=by rw[<-F];unfold Ql;omega
 have J:=Lib.hid F;have a7:m=many:=by omega
 subst a7;rw[F];clear hm F;have b3:m<=c:=H.2.1;have a8:c<=maxLen:=H.2.2.1;unfold maxLen at a8;go_enter Tryz.func222,Tryz.ntmps222
 go_wp2_with fail
 refine (qdu n h1 h2 w).mono ?_;rintro e w1 ⟨p,rfl,R,a9,B⟩;have c2:w1.cell? ⟨p,2,none⟩=some (.int .i64 (m:Int)):=by
  obtain⟨_,_,_,_,_,_,c2,_⟩:=R.open_;rw[Ct.Zi,J.out] at c2;exact c2
 have R:=R.shrink;obtain⟨S,hS⟩:∃S:Nat->Prop,(λk=>w.1.size<=k/\k<w1.1.size)=S:=⟨_,rfl⟩;rw[hS] at R;have U:∀k,S k->w.1.size<=k:=λk f=>by rw[<-hS] at f;exact f.1
 clear hS;have u:=Lib.hid U;clear U;go_wp2_with fail
 clear c2;go_loopw [8,9,27] (λ_ _ i wr=>∃j:Nat,j<=m/\i=.int .i64 (j:Int)/\Yu wr p 0 S (Yv n b j)/\(∀q,q<j->q4s n (2+2*m) q (nth b q))/\Below w.1.size w wr) (λ_ _ i _=>m-(intOf i).toNat)
 case atStart=>exact⟨0,Nat.zero_le _,rfl,R,λq hq=>absurd hq (Nat.not_lt_zero _),B⟩
 case round=>
  clear R B;obtain⟨j,hj,rfl,R,d,B⟩:=hrel;by_cases M:j<m
  ·obtain⟨Q,A1,n1,c1,eA,a5,Y,D⟩:=H.cell M;subst eA;have b2:=(B.cell (p:=Q.add j) (by rw[Nl];exact a5)).trans Y;have O:=D.below B;have e3:(j:Int)<(m:Int):=by omega
   have e0:(0:Int)<=(j:Int):=by omega
   have K:=D.len;obtain⟨l,hl⟩:∃l,nth b j=l:=⟨_,rfl⟩;rw[hl] at D O K;have Hl:=Lib.hid hl;have y:=Lib.hid d;have P:=Lib.hid K;clear hl d Y K;by_cases I:n1=236
   ·subst I;have T:∀Q,A1=some Q->¬S Q.block:=λQ e=>by
     obtain⟨b0,e',hb,_⟩:=D.cell (k:=0) (by omega);rw[e] at e';injection e' with e';subst e';exact λh=>absurd (u.out _ h) (by omega)
    have a3:=Lib.hid T;have a1:=Lib.hid O;clear T O D;have G:(Yv n b j).n=n:=qab _ _ _;have Z:(Yv n b j).first=2+2*m:=by unfold Ct.first;rw[G,J.out]
    have a2:∀a,j*118<=a->a<(Yv n b j).n->nm (Yv n b j).now a=0:=λa b1 W=>by
     rw[G] at W;rw[qac n b j a W,if_neg (by omega)]
    have E:Yd n j l (Yv n b j) 118=Yv n b (j+1):=by rw[<-Hl.out];rfl
    have f:=qor R j (by omega) A1 c1 l a1.out a3.out a2;rw[G,Z,E] at f;have Hk:=Lib.hid f;clear f G Z a2 E;go_wp2_with fail
    refine Hk.out.mono ?_;rintro e w4 ⟨⟨rfl,hg,R4⟩|⟨rfl,q,hq,hg⟩,T4⟩
    ·have B4:=B.trans (T4.below (λ_ f=>u.out _ f) B.size);have Hg:=Lib.hid hg;clear hg R;go_wp2;refine⟨⟨j+1,by omega,by go_num,R4,λq hq=>?_,B4⟩,by simp[intOf];omega⟩;by_cases e:q=j
     ·rw[e,Hl.out];exact⟨P.out,Hg.out⟩
     ·exact y.out q (by omega)
    ·have B4:=B.trans (T4.below (λ_ f=>u.out _ f) B.size);have a0:¬∀i,i<m->q4s n (2+2*m) i (nth b i):=λhh=>by
      have h3:=(hh j M).2 q hq;rw[Hl.out,hg] at h3
      cases h3
     have a4:=Lib.hid a0;clear a0 hg;go_wp2;go_ret2;exact⟨.inr ⟨a4.out,rfl⟩,B4⟩
   ·have e4:¬(n1:Int)=236:=by omega
    have X:=Lib.hid (show ¬∀i,i<m->q4s n (2+2*m) i (nth b i) from λhh=>I (by have:=(hh j M).1;rw[Hl.out] at this;exact P.out.symm.trans this));have hb:((n1:Int)==236)=false:=by simpa using e4
    go_wp2;go_ret2;exact⟨.inr ⟨X.out,rfl⟩,B⟩
  ·have a6:j=m:=by omega
   subst a6;have y:=Lib.hid d;clear d;go_wp2_with fail
   refine (qi1 R).mono ?_;rintro e w5 ⟨rfl,R5,T5⟩;go_wp2;go_ret2;refine⟨.inl ⟨y.out,p,rfl,?_,a9⟩,B.trans (T5.below (λ_ f=>u.out _ f) B.size)⟩;exact (show Vr n b=(Yv n b j).commit by unfold Vr;rw[J.out])▸R5.mono λk f=>u.out k f
theorem qos (n:Int)(h:n<32\/2048<n)(A:Option Addr)(m c:Nat)(w:World) :
  Calls Tryz.prog 222 #[.int .i64 n,.slice A m c] w λe b=>e=.returned (.tuple #[.pointer none,.int .i64 1])/\w=b:=by
 have H:=Lib.hid h;clear h;go_enter Tryz.func222,Tryz.ntmps222
 go_wp2_with fail
 refine (qtf n H.out w).mono ?_;rintro e d ⟨rfl,rfl⟩;go_wp2;go_ret2;exact⟨rfl,rfl⟩
theorem qm8 (n:Nat)(h1:32<=n)(h2:n<=2048)(A:Option Addr)(m c:Nat)(w:World)(hm:m≠Ql n) :
  Calls Tryz.prog 222 #[.int .i64 (n:Int),.slice A m c] w λe u=>e=.returned (.tuple #[.pointer none,.int .i64 3])/\Below w.1.size w u:=by
 obtain⟨k,b⟩:∃k,Ql n=k:=⟨_,rfl⟩;rw[b] at hm;have d:=Lib.hid b;have f:¬(m:Int)=(k:Int):=by omega
 have D:((m:Int)==(k:Int))=false:=by simpa using f
 clear b;go_enter Tryz.func222,Tryz.ntmps222
 go_wp2_with fail
 refine (qdu n h1 h2 w).mono ?_;rintro e y ⟨p,rfl,R,_,B⟩;have c2:y.cell? ⟨p,2,none⟩=some (.int .i64 (k:Int)):=by
  obtain⟨_,_,_,_,_,_,c2,_⟩:=R.open_;rw[Ct.Zi,d.out] at c2;exact c2
 go_wp2;go_ret2;exact⟨rfl,B⟩
theorem qot (n:Int)(b:List (List UInt8))(A:Option Addr)(m c:Nat){w:World}(H:Parts w A m c b) :
  Calls Tryz.prog 222 #[.int .i64 n,.slice A m c] w λe f=>((J9 n b=0/\∃p,e=.returned (.tuple #[.pointer (some ⟨p,0,none⟩),.int .i64 0])/\Yu f p 0 (λk=>w.1.size<=k) (Vr n.toNat b)/\w.1.size<=p)\/
   (J9 n b≠0/\e=.returned (.tuple #[.pointer none,.int .i64 (J9 n b)])))/\Below w.1.size w f:=by
 by_cases hn:32<=n/\n<=2048
 ·obtain⟨k,rfl⟩:=Int.eq_ofNat_of_zero_le (show 0<=n by omega);by_cases hm:m=Ql k
  ·refine (qtg k b (by omega) (by omega) A m c H hm).mono ?_;have D:b.length=Ql k:=H.len.trans hm;rintro e f ⟨⟨u,p,rfl,R,y⟩|⟨u,rfl⟩,B⟩
   ·have d:J9 (k:Int) b=0:=by unfold J9;rw[Int.toNat_natCast,if_neg (λh=>h hn),if_neg (λh=>h.elim (λh=>h D) (λh=>h u))]
    exact⟨.inl ⟨d,p,rfl,R,y⟩,B⟩
   ·have d:J9 (k:Int) b=3:=by unfold J9;rw[Int.toNat_natCast,if_neg (λh=>h hn),if_pos (.inr u)]
    rw[d];exact⟨.inr ⟨by omega,rfl⟩,B⟩
  ·refine (qm8 k (by omega) (by omega) A m c w hm).mono ?_;rintro e f ⟨rfl,B⟩;have d:J9 (k:Int) b=3:=by unfold J9;rw[Int.toNat_natCast,if_neg (λh=>h hn),if_pos (.inl (by rw[H.len];exact hm))]
   rw[d];exact⟨.inr ⟨by omega,rfl⟩,B⟩
 ·refine (qos n (by omega) A m c w).mono ?_;rintro e f ⟨rfl,rfl⟩;have d:J9 n b=1:=by unfold J9;rw[if_pos hn]
  rw[d];exact⟨.inr ⟨by omega,rfl⟩,Below.refl _ _⟩
theorem Qbm (x:Int)(w:World) :
  Calls Tryz.prog 180 #[.slice none 0 0,.int .i64 x,.int .i64 2] w λe f=>∃b d,e=.returned (.slice b 2 d)/\Sl f b 2 d (Zc x 2)/\Below w.1.size w f:=by
 have m:=qaf none 0 0 [] x 2 w (Np w) (by omega);rw[show Bo [] x 2=Zc x 2 from rfl] at m;refine m.mono ?_;rintro e f ⟨b,y,d,rfl,own,u⟩;have p:=own.len;rw[Ya] at p;subst p;exact⟨b,d,rfl,own.sl,u⟩
theorem qfh {w:World}{p o:Nat}{S:Nat->Prop}{C:Ct}(H:Yu w p o S C)(i:Int) :
  Calls Tryz.prog 134 #[.pointer (some ⟨p,o,none⟩),.int .i64 i] w λe Z=>∃A n c,e=.returned (.slice A n c)/\Sl Z A n c (C.body i)/\Below w.1.size w Z/\∀B,A=some B->w.1.size<=B.block:=by
 obtain⟨many,hm⟩:∃m,Ql C.n=m:=⟨_,rfl⟩;have a2:=H.ok.1;have a1:many<=1000:=by rw[<-hm];unfold Ql;omega
 obtain⟨g,cg,b,cb,c0,c1,c2,c3,k1,k2,J,y,K⟩:=H.open_;clear J y K c1 c0 c3 k1 k2;rw[hm] at c2;have Y:=Lib.hid hm;clear hm;by_cases T:0<=i/\i<(many:Int)
 ·have d:=Lib.hid (show C.body i=C.Zw (i*118) 118 by unfold Ct.body;rw[Y.out,if_pos T]);obtain⟨q,rfl⟩:=Int.eq_ofNat_of_zero_le T.1;have e1:¬(q:Int)<0:=by omega
  have e2:¬(many:Int)<=(q:Int):=by omega
  have hq:q<many:=by omega
  have d1:decide ((q:Int)<0)=false:=by simp
  have d2:decide ((many:Int)<=(q:Int))=false:=by simp;omega
  have d3:decide (many<=q)=false:=by simp;omega
  go_enter Tryz.func134,Tryz.ntmps134
  go_wp2_with (first
   |(at_make;refine qf5 _ Az rfl _ _ rfl _ _ 236 rfl rfl (by omega) ?_)
   |fail)
  intro w1 Dn G;go_wp2_with fail
  go_loopw [5,6,18] (λb _ k wr=>∃(j:Nat) (O:Option Addr) (P:Nat),j<=118/\k=.int .i64 (j:Int)/\b=.slice O (2*j) P/\Own wr w.1.size 5 O (2*j) P (C.Zw ((q:Int)*118) j)/\Below w.1.size w wr) (λ_ _ k _=>118-(intOf k).toNat)
  case atStart=>exact⟨0,_,_,by omega,rfl,rfl,Dn,G⟩
  case round=>
   clear Dn G;obtain⟨j,O,P,hj,rfl,rfl,own,Q⟩:=hrel;by_cases a0:j<118
   ·have Hr:=H.below Q;have e3:(j:Int)<118:=by omega
    obtain⟨x,W⟩:∃x,C.get ((q:Int)*118+(j:Int))=x:=⟨_,rfl⟩;have u:=Lib.hid (show C.Zw ((q:Int)*118) (j+1)=C.Zw ((q:Int)*118) j++Zc x 2 by rw[<-W];rfl);have Hx:=Lib.hid W;clear W c2;go_wp2_with fail
    refine (q2m Hr _ x Hx.out).mono ?_;rintro e w3 ⟨rfl,rfl⟩;go_wp2_with fail
    refine (Qbm x wr).mono ?_;rintro e w4 ⟨A4,c4,rfl,X,I⟩;have M:=own.below I;have F:=Q.trans (I.mono Q.size);go_wp2_with (at_builtin;refine qa0 _ Az rfl _ _ rfl w.1.size O (2*j) P _ rfl M A4 2 c4 _ rfl X (by omega) F.size ?_)
    intro A5 c5 w5 f R;rw[<-u.out] at f;go_wp2;exact⟨⟨j+1,A5,c5,by omega,by go_num,rfl,f,F.trans R⟩,by simp[intOf];omega⟩
   ·have U:j=118:=by omega
    subst U;have E:=own.sl;have D:=λB e=>(own.block B e).1
    go_wp2;go_ret;rw[d.out];exact⟨_,_,_,rfl,E,Q,D⟩
 ·have d:=Lib.hid (show C.body i=[] by unfold Ct.body;rw[Y.out,if_neg T]);by_cases h0:i<0
  ·go_enter Tryz.func134,Tryz.ntmps134
   go_wp2;go_ret;rw[d.out];exact⟨_,_,_,rfl,Np _,Below.refl _ _,λB e=>by cases e⟩
  ·have e2:(many:Int)<=i:=by omega
   have e1:¬i<0:=h0;go_enter Tryz.func134,Tryz.ntmps134
   go_wp2;go_ret;rw[d.out];exact⟨_,_,_,rfl,Np _,Below.refl _ _,λB e=>by cases e⟩
