/- Trees as plain data: what is got, and what is told between two keys; of a store that tells -/
import Derived.Test.YtnjacafcocnicaaGreatDoorDv7
import Derived.Test.YtnjacafcocnicaaGreatDoorDv9
namespace Go.Proofs.YtnjacafcocnicaaGreatDoor
open Go Go.RowKit Go.Proofs Tryz
set_option maxHeartbeats 4000000
set_option maxRecDepth 10000
theorem q6u {R:Int->Nd × Int}:∀{l:Nat} {a:Int} {its:List Qc},Qs R l a its->∃x r,its=x::r
 |0,a,its,h=>by
  match its,h.2 with
  |x::r,_=>exact⟨x,r,rfl⟩
 |l+1,a,its,h=>by
  obtain⟨kids,parts,_,h2,f,rfl,u⟩:=h;have q:0<kids.length:=List.length_pos_iff.2 h2;obtain⟨_,x,r,e,_⟩:=u 0 q;match parts,f with
  |[],f=>rw[<-f] at q;cases q
  |p::ps,_=>
   have e:p=x::r:=e;exact⟨x,r++ps.flatten,by rw[List.flatten_cons,e];rfl⟩
def within (fr «to»:Kd)(its:List Qc):List Qc:=its.filter λx=>!x.k.less fr&&!«to».less x.k
def Yo (f:Int->List Qc->List Qc × Int)(«to»:Kd)(most:Nat):List Qn->List Qc->List Qc × Int
 |[],acc=>(acc,0)
 |x::r,acc=>if «to».less x.k=true\/most<=acc.length then (acc,0) else if (f x.a acc).2≠0 then ([],(f x.a acc).2) else Yo f «to» most r (f x.a acc).1
def Ju (R:Int->Nd × Int)(fr «to»:Kd)(most:Nat):Nat->Int->List Qc->List Qc × Int
 |0,a,acc=>if (R a).2≠0 then ([],(R a).2) else if (R a).1.lvl≠0 then ([],5) else ((acc++within fr «to» (R a).1.items).take most,0)
 |l+1,a,acc=>if (R a).2≠0 then ([],(R a).2) else if (R a).1.lvl≠((l+1:Nat):Int) then ([],5) else Yo (Ju R fr «to» most l) «to» most ((R a).1.kids.drop ((R a).1.Zw fr)) acc
theorem q44 {fr «to»:Kd}{its:List Qc}(h:∀x∈its,x.k.less fr=true\/«to».less x.k=true):within fr «to» its=[]:=by
 unfold within;rw[List.filter_eq_nil_iff];intro x f;rcases h x f with e|e<;>simp[e]
theorem q45 {α:Type}{a b:List α}{m:Nat}(h:m<=a.length):(a++b).take m=a.take m:=by
 rw[List.take_append,Nat.sub_eq_zero_of_le h,List.take_zero,BM]
theorem q9n {α:Type}(a b:List α)(m:Nat):(a.take m++b).take m=(a++b).take m:=by
 by_cases h:m<=a.length
 ·rw[q45 h,q45 (by rw[AR];omega),List.take_take,Nat.min_self]
 ·rw[AN (l:=a) (by omega)]
theorem qg9 {f:Int->List Qc->List Qc × Int}{fr «to»:Kd}{most:Nat}:∀(kids:List Qn) (parts:List (List Qc)) (q:List Qc),parts.length=kids.length->q.length<=most->Qo parts.flatten->
  (∀j,j<kids.length->(∀q:List Qc,q.length<=most->f (Qk kids j).a q=((q++within fr «to» (parts.getD j [])).take most,0))/\∃x r,parts.getD j []=x::r/\(Qk kids j).k=x.k)->
  Yo f «to» most kids q=((q++within fr «to» parts.flatten).take most,0)
 |[],parts,q,hl,ha,_,_=>by
  obtain rfl:parts=[]:=List.length_eq_zero_iff.1 hl;unfold Yo;rw[List.flatten_nil,show within fr «to» []=[] from rfl,BM,AN ha]
 |x::kids,[],q,hl,_,_,_=>by simp at hl
 |x::kids,p::parts,q,hl,ha,hr,h=>by
  obtain⟨h0,y,r,F,G⟩:=h 0 (by rw[AX];omega);have F:p=y::r:=F;have G:x.k=y.k:=G;have h0:∀q:List Qc,q.length<=most->f x.a q=((q++within fr «to» p).take most,0):=h0;unfold Yo;by_cases D:«to».less x.k=true
  ·rw[AA (.inl D)];have:within fr «to» (p::parts).flatten=[]:=q44 λz E=>.inr (by
    have u:z=y\/y.k.less z.k=true:=by
     rw[List.flatten_cons,F,List.cons_append] at E hr;rcases List.mem_cons.1 E with rfl|E
     ·exact .inl rfl
     ·exact .inr ((List.pairwise_cons.1 hr).1 z E)
    rw[G] at D;rcases u with rfl|u
    ·exact D
    ·exact Kd.trans _ _ _ D u)
   rw[this,BM,AN ha]
  ·by_cases hm:most<=q.length
   ·rw[AA (.inr hm),q45 hm,AN ha]
   ·rw[AB (by rintro (h|h);exact D h;exact hm h),h0 q ha];dsimp only;rw[AB (by simp),qg9 kids parts _ (by simpa using hl) (by rw[AR];omega) (by
     rw[List.flatten_cons] at hr;exact (List.pairwise_append.1 hr).2.1) λj K=>?_]
    ·have:within fr «to» (p::parts).flatten=within fr «to» p++within fr «to» parts.flatten:=by unfold within;rw[List.flatten_cons,List.filter_append]
     rw[this,q9n,AM]
    ·obtain⟨h1,z,s,H,I⟩:=h (j+1) (by rw[AX];omega);rw[getD_cons_succ] at h1 H;have J:Qk (x::kids) (j+1)=Qk kids j:=by unfold Qk;rw[getD_cons_succ]
     rw[J] at h1 I;exact⟨h1,z,s,H,I⟩
theorem qga {α:Type}(l:List α)(n j:Nat)(d:α):(l.drop n).getD j d=l.getD (n+j) d:=by
 rw[AG,AG,List.getElem?_drop]
theorem qcq {R:Int->Nd × Int}(fr «to»:Kd)(most:Nat):∀(l:Nat) (a:Int) (its f:List Qc),Qs R l a its->Qo its->f.length<=most->Ju R fr «to» most l a f=((f++within fr «to» its).take most,0)
 |0,a,its,f,h,hr,E=>by
  obtain⟨h1,_⟩:=h;unfold Ju;rw[h1];dsimp only;rw[AB (by simp),AB (by simp)]
 |l+1,a,its,f,h,hr,E=>by
  obtain⟨kids,parts,h1,h2,T,rfl,M⟩:=h;have Y:(⟨((l+1:Nat):Int),[],kids⟩:Nd).Zw fr=lastTo (kids.map (·.k)) fr kids.length:=by
   unfold Nd.Zw;have:¬((l+1:Nat):Int)=0:=by omega
   dsimp only;rw[AB this,q7o,AF]
  obtain⟨n,hn⟩:∃n,lastTo (kids.map (·.k)) fr kids.length=n:=⟨_,rfl⟩;have hl:0<kids.length:=List.length_pos_iff.2 h2;have D:n<kids.length:=by
   rcases qc5 (kids.map (·.k)) fr kids.length with e|e<;>omega
  unfold Ju;rw[h1];dsimp only;rw[AB (by simp),AB (by simp),Y,hn];have u:parts.flatten=(parts.take n).flatten++(parts.drop n).flatten:=by rw[<-List.flatten_append,AV]
  have y:within fr «to» (parts.take n).flatten=[]:=q44 λx hx=>.inl (by
   obtain⟨p,W,J⟩:=List.mem_flatten.1 hx;obtain⟨q,X,e⟩:=List.getElem_of_mem W;have I:q<n:=by rw[AR] at X;omega
   have K:x∈parts.getD q []:=by
    rw[List.getElem_take] at e;rw[AG,AC (by omega),e];exact J
   obtain⟨_,z,s,F,G⟩:=M n D;have H:x.k.less z.k=true:=q8y hr I (by omega) K (by rw[F];exact AP ..);have U:fr.less z.k=false:=by
    have:=q8x (kids.map (·.k)) fr kids.length (by omega);rw[hn,qc8 kids D,G] at this;exact this
   exact qe7 H U)
  have Z:within fr «to» parts.flatten=within fr «to» (parts.drop n).flatten:=by
   have:within fr «to» parts.flatten=within fr «to» (parts.take n).flatten++within fr «to» (parts.drop n).flatten:=by
    conv=>lhs;rw[u]
    unfold within;rw[List.filter_append]
   rw[this,y,BG]
  rw[Z];refine qg9 (kids.drop n) (parts.drop n) f (by rw[AS,AS,T]) E ?_ λj V=>?_
  ·rw[u] at hr;exact (List.pairwise_append.1 hr).2.1
  ·rw[AS] at V;have O:Qk (kids.drop n) j=Qk kids (n+j):=by unfold Qk;rw[qga]
   rw[O,qga];obtain⟨H,z,s,F,G⟩:=M (n+j) (by omega);exact⟨λf E=>qcq fr «to» most l _ _ f H (qe8 hr (n+j)) E,z,s,F,G⟩
def q6a (N:Nd):Bool:=N.items.all λx=>decide (x.v.length<=28)
def Az (N:Nd):Bool:=N.kids.all λx=>decide (1<=x.a/\x.a<2048)
def Nd.may (N:Nd):Bool:=
 if N.lvl=0 then q6a N&&(rises N.keys&&decide (N.kids.length=0/\1<=N.items.length/\N.items.length<=6))
 else Az N&&(rises N.keys&&decide (1<=N.lvl/\N.lvl<8/\N.items.length=0/\2<=N.kids.length/\N.kids.length<=12))
theorem qiv {N:Nd}(h:∀j,j<N.items.length->(Zc N.items j).v.length<=28):q6a N=true:=by
 unfold q6a;rw[List.all_eq_true];intro x q;obtain⟨j,f⟩:=List.mem_iff_getElem?.1 q;have p:=(List.getElem?_eq_some_iff.1 f).1;have:=q22 p;rw[f] at this;obtain rfl:=OI this;exact AL (h j p)
theorem qnj {N:Nd}(h:∀j,j<N.kids.length->1<=(Qk N.kids j).a/\(Qk N.kids j).a<2048):Az N=true:=by
 unfold Az;rw[List.all_eq_true];intro x q;obtain⟨j,f⟩:=List.mem_iff_getElem?.1 q;have p:=(List.getElem?_eq_some_iff.1 f).1;have:=q16 p;rw[f] at this;obtain rfl:=OI this;exact AL (h j p)
theorem q10 {R R':Int->Nd × Int}(h:∀a,(R a).2=0->R' a=R a):∀{l:Nat} {a:Int} {its:List Qc},Qs R l a its->Qs R' l a its
 |0,a,its,hh=>⟨by rw[h a (by rw[hh.1])];exact hh.1,hh.2⟩
 |l+1,a,its,hh=>by
  obtain⟨kids,parts,h1,h2,q,u,f⟩:=hh;exact⟨kids,parts,by rw[h a (by rw[h1])];exact h1,h2,q,u,λj p=>⟨q10 h (f j p).1,(f j p).2⟩⟩
abbrev Jc:=Int × List Qc
def Qr (x:Jc):Qn:=⟨(Zc x.2 0).k,x.1⟩
def rowOf (G:List Jc):List Qc:=(G.map (·.2)).flatten
theorem qed {G:List Jc}{j:Nat}(f:j<G.length):Qk (G.map Qr) j=Qr G[j]:=by
 unfold Qk;rw[AG,BA,AC f];rfl
theorem q58 {G:List Jc}{j:Nat}(f:j<G.length):(G.map (·.2)).getD j []=(G[j]).2:=by
 rw[AG,BA,AC f];rfl
theorem qiw {R:Int->Nd × Int}{l:Nat}{b:Int}{G:List Jc}(h:∀x∈G,Qs R l x.1 x.2)(p:G≠[])(q:R b=(⟨((l+1:Nat):Int),[],G.map Qr⟩,0)):Qs R (l+1) b (rowOf G):=by
 refine⟨G.map Qr,G.map (·.2),q,?_,by rw[AF,AF],rfl,λj f=>?_⟩
 ·intro e;exact p (List.map_eq_nil_iff.1 e)
 ·rw[AF] at f;rw[qed f,q58 f];have h1:=h _ (List.getElem_mem f);obtain⟨x,r,e⟩:=q6u h1;exact⟨h1,x,r,e,by unfold Qr Zc;rw[e];rfl⟩
theorem ql3 {ks:List Kd}(hm:∀k∈ks,k.may=true)(h:ks.Pairwise λa b=>a.less b=true):rises ks=true:=by
 refine qu9 λj f=>?_
 have e:∀i,(hi:i<ks.length)->keyAt ks i=ks[i]:=λi hi=>by unfold keyAt;rw[AG,AC hi];rfl
 unfold Kz;rw[e j f,hm _ (List.getElem_mem f),Bool.true_and];by_cases h0:j=0
 ·subst h0;rfl
 ·rw[e (j-1) (by omega),List.pairwise_iff_getElem.1 h (j-1) j (by omega) f (by omega),Bool.or_true]
theorem qv0 {p:List Qc}(h1:1<=p.length)(y:p.length<=6)(D:Qo p)(u:∀x∈p,x.k.may=true/\x.v.length<=28):(⟨0,p,[]⟩:Nd).may=true:=by
 unfold Nd.may;rw[AA rfl,BN,BN];refine⟨?_,?_,AL ⟨rfl,h1,y⟩⟩
 ·unfold q6a;rw[List.all_eq_true];exact λx f=>AL (u x f).2
 ·rw[q2z];refine ql3 (λk f=>?_) (List.Pairwise.map _ (λ_ _ h=>h) D);obtain⟨x,q,rfl⟩:=List.mem_map.1 f;exact (u x q).1
theorem qpw {l:Nat}{G:List Jc}(T:l<7)(h2:2<=G.length)(D:G.length<=12)(O:Qo (rowOf G))(M:∀x∈rowOf G,x.k.may=true)(K:∀x∈G,1<=x.1/\x.1<2048)(H:∀x∈G,x.2≠[]):(⟨((l+1:Nat):Int),[],G.map Qr⟩:Nd).may=true:=by
 unfold Nd.may;have h0:¬((l+1:Nat):Int)=0:=by omega
 dsimp only;rw[AB h0,BN,BN];refine⟨?_,?_,AL ⟨by omega,by omega,rfl,by rw[AF];exact h2,by rw[AF];exact D⟩⟩
 ·unfold Az;rw[List.all_eq_true];intro x f;obtain⟨y,R,rfl⟩:=List.mem_map.1 f;exact AL (K y R)
 ·rw[q7o,List.map_map];have first:∀x∈G,∃y r,x.2=y::r/\(Qr x).k=y.k:=λx f=>by
   match e:x.2,H x f with
   |y::r,_=>exact⟨y,r,rfl,by unfold Qr Zc;rw[e];rfl⟩
  refine ql3 (λk f=>?_) ?_
  ·obtain⟨x,p,rfl⟩:=List.mem_map.1 f;obtain⟨y,r,q,u⟩:=first x p
   show (Qr x).k.may=true;rw[u];refine M y ?_;unfold rowOf;rw[List.mem_flatten];exact⟨x.2,List.mem_map_of_mem p,by rw[q];exact AP ..⟩
  ·rw[List.pairwise_map,List.pairwise_iff_getElem];intro i j hi F E;obtain⟨y,r,q,u⟩:=first _ (List.getElem_mem hi)
   obtain⟨z,s,I,J⟩:=first _ (List.getElem_mem F)
   show (Qr G[i]).k.less (Qr G[j]).k=true;rw[u,J];refine q8y O E (by rw[AF];exact F) (x:=y) (y:=z) ?_ ?_
   ·rw[q58 hi,q];exact AP ..
   ·rw[q58 F,I];exact AP ..
theorem qzc (V:Addr)(c:Nat)(l:LU)(w:WD)(I:Sl w (some V) 256 c l)(Y:Tab w)(u:¬l.take 4=Gh l):q23 (some V) 256 c l w:=by
 unfold q23;have X:=I.len;have W:=I.cap;have hm:=I.max;unfold maxLen at hm;have U:=HB.zero w 153;have p:Below w.1.size w (w.alloc (.cells #[.int .i64 0,.int .i64 0,.int .i64 0,.int .i64 0,.int .i64 0] 153)):=Qi;have G:w.1.size<(w.alloc (.cells #[.int .i64 0,.int .i64 0,.int .i64 0,.int .i64 0,.int .i64 0] 153)).1.size:=by simp
 have y:okB l=false:=AH (λh=>u h.2.1);have h1:Yz l=Hd.zero:=by unfold Yz;rw[AB (by rw[y];simp)]
 have h2:U8 l=[]:=by unfold U8;rw[AB (by rw[y];simp)]
 have h3:Nv l=3:=by unfold Nv;rw[AB (by rw[y];simp)]
 rw[h1,h2,h3];have q:¬((⟨(l.take 4).toArray⟩:ByteArray)=⟨(Gh l).toArray⟩):=λh=>u (by injection h with h;simpa using h)
 have F:((⟨(l.take 4).toArray⟩:ByteArray).toList==(⟨(Gh l).toArray⟩:ByteArray).toList)=false:=by rw[ByteArray.toList_eq,ByteArray.toList_eq];simpa using u
 generalize hS:(⟨(Gh l).toArray⟩:ByteArray)=S1 at q F;generalize E:(⟨(l.take 4).toArray⟩:ByteArray)=S2 at q F;go_enter func106,ntmps106
 go_wp2;generalize (w.alloc (.cells #[.int .i64 0,.int .i64 0,.int .i64 0,.int .i64 0,.int .i64 0] 153))=T at U p G ⊢;have D:=I.below p;have R:=Y.below p Y.1;have k1:=q9l (D.take (k:=4) (by omega)).drew;rw[E] at k1;go_region_with (first
  |(go_at_call 143;refine (q8s _ 256 c l _ D.drew (by omega) R).mono ?_;rintro e Z ⟨A3,n3,c3,rfl,H,K⟩;have f:Below T.1.size T Z:=Below.trans (AI _ T).drew K;have k2:=q9l ((D.below f).take (k:=4) (by omega));have k3:=q9l H.sl;rw[E] at k2;rw[hS] at k3)
  |fail)
 all_goals
  have J:=U.below f G;have a1:=f.size;go_wp2_with (first
   |(refine q0v rfl (.tmp 2) (.tmp 19) rfl w.1.size rfl Hd.zero _ rfl (by exact J) (by show w.1.size<Z.1.size;omega) ?_;intro w4 O M _)
   |fail)
  refine bodyPost_ret (q0x Tryz.results106 rfl (q8t O)) rfl ?_;exact⟨_,_,_,rfl,q55 _ _ _,p.trans ((f.mono (by omega)).trans (M _ (AE _)))⟩
theorem q59 (A:OA)(n c:Nat)(l:LU)(w:WD)(y:Sl w A n c l)(J:Tab w):q23 A n c l w:=by
 have I:=y.len;by_cases hn:n=256
 ·subst hn;obtain⟨H,rfl,_⟩:=y.cell (k:=0) (by omega);by_cases q:l.take 4=Gh l
  ·exact qBd H c l w y J q
  ·exact qzc H c l w y J q
 ·unfold q23;have f:okB l=false:=AH (λh=>hn (by omega));have h1:Yz l=Hd.zero:=by unfold Yz;rw[AB (by rw[f];simp)]
  have h2:U8 l=[]:=by unfold U8;rw[AB (by rw[f];simp)]
  have K:Nv l=3:=by unfold Nv;rw[AB (by rw[f];simp)]
  rw[h1,h2,K];have E:¬(n:Int)=256:=by omega
  have M:decide ((n:Int)=256)=false:=AH E;have G:=HB.zero w 153;have p:Below w.1.size w (w.alloc (.cells #[.int .i64 0,.int .i64 0,.int .i64 0,.int .i64 0,.int .i64 0] 153)):=Qi;have u:w.1.size<(w.alloc (.cells #[.int .i64 0,.int .i64 0,.int .i64 0,.int .i64 0,.int .i64 0] 153)).1.size:=by simp
  go_enter func106,ntmps106
  go_wp2;generalize (w.alloc (.cells #[.int .i64 0,.int .i64 0,.int .i64 0,.int .i64 0,.int .i64 0] 153))=O at G p u ⊢;go_quiet (fail)
  go_wp2_with (first
   |(refine q0v rfl (.tmp 2) (.tmp 19) rfl w.1.size rfl Hd.zero _ rfl (by exact G) (by exact u) ?_;intro R F D _)
   |fail)
  refine bodyPost_ret (q0x Tryz.results106 rfl (q8t F)) rfl ?_;exact⟨_,_,_,rfl,q55 _ _ _,(Nb p _).trans (D _ (AE _))⟩
theorem qBl (l:LU)(x n:Int)(h1:1<=n)(h2:n<=8):Uw l x n=l++Qx x n.toNat:=AA ⟨h1,h2⟩
theorem qnk (l:LU)(a:Nat):l.foldl (λa b=>256*a+b.toNat) a=a*256 ^ l.length+Qq l:=by
 induction l generalizing a with
 |nil=>simp[Qq]
 |cons b l ih=>
  unfold Qq;rw[List.foldl_cons,List.foldl_cons,ih,ih (256*0+b.toNat),AX,Nat.pow_succ,Nat.add_mul,Nat.add_mul];have e:256*a*256 ^ l.length=a*(256 ^ l.length*256):=by rw[Nat.mul_comm 256 a,Nat.mul_assoc,Nat.mul_comm 256]
  omega
theorem q7w (b:UInt8)(l:LU):Qq (b::l)=b.toNat*256 ^ l.length+Qq l:=by
 have h:=qnk l (256*0+b.toNat);have e:(256*0+b.toNat)*256 ^ l.length=b.toNat*256 ^ l.length:=by rw[Nat.mul_zero,AT]
 rw[e] at h;exact h
theorem qv1 (u k:Nat):(low (u:Int) k).toNat=u / 256 ^ k % 256:=by
 unfold low;have e:((u:Int) / 2 ^ (8*k) % 256)=((u / 256 ^ k % 256:Nat):Int):=by
  rw[show (256:Nat) ^ k=2 ^ (8*k) by rw[Nat.pow_mul],Int.natCast_emod,Int.natCast_ediv,Int.natCast_pow];rfl
 rw[e,AJ,UInt8.toNat_ofNat'];omega
theorem qab (u k:Nat):Qq (Qx (u:Int) k)=u % 256 ^ k:=by
 induction k with
 |zero=>simp[Qx,Qq,Nat.mod_one]
 |succ k ih=>
  rw[Qx,q7w,J8,ih,qv1,Nat.mod_pow_succ,Nat.mul_comm];omega
theorem ql4:∀{a b:LU},a.length=b.length->Qq a=Qq b->a=b
 |[],[],_,_=>rfl
 |[],_::_,h,_=>by simp at h
 |_::_,[],h,_=>by simp at h
 |x::a,y::b,h,e=>by
  have f:a.length=b.length:=by simpa using h
  rw[q7w,q7w,f] at e;have h1:=q3m a;have h2:=q3m b;rw[f] at h1;have q:0<256 ^ b.length:=Nat.pow_pos (by omega);have u:(x.toNat*256 ^ b.length+Qq a) / 256 ^ b.length=x.toNat:=by rw[Nat.mul_comm,Nat.mul_add_div q,Nat.div_eq_of_lt h1];omega
  have D:(y.toNat*256 ^ b.length+Qq b) / 256 ^ b.length=y.toNat:=by rw[Nat.mul_comm,Nat.mul_add_div q,Nat.div_eq_of_lt h2];omega
  have p:x.toNat=y.toNat:=by rw[<-u,<-D,e]
  have F:=UInt8.toNat_inj.1 p;subst F;have E:Qq a=Qq b:=by omega
  rw[ql4 f E]
def gN (l:LU)(p m:Nat):Nat:=Qq ((l.drop p).take m)
section
variable {P:Program}{t e:TypeId}(w:WD)
end
def Ik (x:Qc):LU:=x.k.bytes++(Qx (x.v.length:Int) 1++x.v)
def Ij (x:Qn):LU:=x.k.bytes++Qx x.a 2
def Nd.body (N:Nd):LU:=N.items.flatMap Ik++N.kids.flatMap Ij
def Nd.head (N:Nd)(addr gen:Int):Hd:=⟨if 0<N.lvl then 4 else 3,addr,(N.items.length:Int)+(N.kids.length:Int),N.lvl,gen⟩
def Jo (N:Nd)(addr gen:Int):LU:=if N.may=true then Xw (N.head addr gen) N.body else []
def Zi (N:Nd)(addr gen:Int):Int:=if N.may=true then Xr (N.head addr gen) N.body else 1
theorem q31 {N:Nd}(h:N.may=true):N.items.length<=6/\N.kids.length<=12/\(∀j,j<N.items.length->(Zc N.items j).v.length<=28)/\0<=N.lvl:=by
 unfold Nd.may at h;split at h
 ·rename_i p;rw[BN,BN] at h;obtain⟨h1,_,h2⟩:=h;have h2:=AK h2;refine⟨h2.2.2,by omega,λj f=>?_,by omega⟩;unfold q6a at h1;exact AK (List.all_eq_true.1 h1 _ (List.mem_of_getElem? (q22 f)))
 ·rw[BN,BN] at h;obtain⟨_,_,h2⟩:=h;have h2:=AK h2;exact⟨by omega,h2.2.2.2.2,λj f=>by omega,by omega⟩
theorem Qbu (s:ByteArray)(w:WD):(convert 9 48 (.string s)).run prog w=.ok (.slice (some ⟨w.1.size,0,none⟩) s.size (grownCap w s.size 0 5)) (Lib.bytesWorld w 5 s):=
 Lib.run_convert_string_bytes w 9 48 5 s underlying9 underlying48 underlying5
def ttY (l:LU):Bool:=decide (1<=l.length/\1+Qq (l.take 1)<=l.length)
def Oh (l:LU):LU:=if ttY l=true then bodyT l 1 else []
def Pv (l:LU):LU:=if ttY l=true then Zu l 1 else []
def Nl (l:LU):Int:=if ttY l=true then 0 else 2
theorem qBm (l:LU):(Oh l).length<=l.length:=by
 unfold Oh;split
 ·exact qm2 l 1
 ·simp
theorem qyi (l:LU):(Kt l).length<=l.length:=by
 unfold Kt;split<;>simp
def t2Y (l:LU):Bool:=decide (2<=l.length)
def Ti (l:LU):Int:=if t2Y l=true then (Qq (l.take 2):Int) else 0
def Pq (l:LU):LU:=if t2Y l=true then l.drop 2 else []
def Nk (l:LU):Int:=if t2Y l=true then 0 else 2
def Xq (N:Nd)(r:LU):Option (Nd × LU):=
 if Gz r=0 then
  if N.lvl=0 then if Nl (Kt r)=0 then some (⟨N.lvl,N.items++[⟨Ba r,Oh (Kt r)⟩],N.kids⟩,Pv (Kt r)) else none
  else if Nk (Kt r)=0 then some (⟨N.lvl,N.items,N.kids++[⟨Ba r,Ti (Kt r)⟩]⟩,Pq (Kt r)) else none
 else none
def Jy (l:Int)(body:LU):Nat->Option (Nd × LU)
 |0=>some (⟨l,[],[]⟩,body)
 |j+1=>match Jy l body j with
  |some (N,r)=>Xq N r
  |none=>none
theorem q4n (l:Int)(body:LU)(j:Nat)(N:Nd)(r:LU)(h:Jy l body j=some (N,r)):Jy l body (j+1)=Xq N r:=by
 show (match Jy l body j with|some (N,r)=>Xq N r|none=>none)=_;rw[h]
theorem qac (l:Int)(body:LU)(j k:Nat)(h:Jy l body j=none)(f:j<=k):Jy l body k=none:=by
 induction k with
 |zero=>
  obtain rfl:j=0:=by omega
  exact h
 |succ k ih=>
  rcases (by omega:j<=k\/j=k+1) with h1|rfl
  ·show (match Jy l body k with|some (N,r)=>Xq N r|none=>none)=_;rw[ih h1]
  ·exact h
def qee (b:LU):Nat:=min (Yz b).count.toNat 20
def qef (b:LU)(addr gen:Int):Option (Nd × LU)->Option Nd
 |some (N,_)=>if Zi N addr gen=0/\Jo N addr gen=b then some N else none
 |none=>none
def Nj (b:LU)(addr:Int):Option Nd:=if Nv b=0 then qef b addr (Yz b).gen (Jy (Yz b).level (U8 b) (qee b)) else none
theorem qyj {b:LU}(h:Nv b=0):(Yz b).ok=true:=by
 cases f:okB b
 ·obtain⟨_,_,p⟩:=qkm f;rw[p] at h;omega
 ·obtain⟨h1,_,_⟩:=q7j f;rw[h1];exact (AK f).2.2.1
theorem P7:Eh prog 41 50 4 48 (.agg #[.int .i64 0,.int .i64 0,.int .i64 0,.slice none 0 0]):=⟨underlying41,by kernel_rfl,rfl,by omega⟩
theorem Qa5:Eh prog 72 125 4 32 (.agg #[.int .i64 0,.int .i64 0,.int .i64 0,.int .i64 0]):=⟨underlying72,by kernel_rfl,rfl,by omega⟩
theorem Sl.turned' {w w':WD}{A:OA}{n c:Nat}{l:LU}(h:Sl w A n c l){S:NP}(T:Turn S w w')(hA:l≠[]->∀k,q01 A=some k->¬S k):Sl w' A n c l:=by
 by_cases f:l=[]
 ·subst f;exact⟨h.1,h.2.1,h.2.2.1,λj u p=>by simp at p⟩
 ·exact h.turned T (hA f)
theorem Sl.Qa {w:WD}{A:OA}{n c:Nat}{l:LU}(h:Sl w A n c l)(hl:l≠[]):∀k,q01 A=some k->k<w.1.size:=by
 intro k q;have hn:0<n:=by have:=h.len;have:l.length≠0:=λe=>hl (BF e);omega
 obtain⟨f,rfl,p,_⟩:=h.cell hn;obtain rfl:f.block=k:=OI q;exact p
def Vx (k:Kd)(V:OA)(p q:Nat):LV:=[.int .i64 k.obj,.int .i64 k.kind,.int .i64 k.off,.slice V p q]
def Xe (w:WD)(base:Nat)(A:OA)(n c:Nat)(xs:List Qc):Prop:=
 ∃f,Q8 w base 50 4 A n c f/\f.length=xs.length/\∀(j:Nat) r x,f[j]?=some r->xs[j]?=some x->∃V p q,r=Vx x.k V p q/\Sl w V p q x.v/\(x.v≠[]->∀g,q01 V=some g->base<=g/\q01 A≠some g)
section
variable {w w':WD}{base n c:Nat}{A:OA}{xs:List Qc}
theorem q1o (w:WD)(base:Nat):Xe w base none 0 0 []:=⟨[],q0z _ _ _ _,rfl,λj r x f=>by simp at f⟩
theorem Xe.below (h:Xe w base A n c xs)(hb:Below w.1.size w w'):Xe w' base A n c xs:=by
 obtain⟨u,h1,h2,y⟩:=h;refine⟨u,h1.below hb,h2,λj r x D F=>?_⟩;obtain⟨V,p,q,e,E,f⟩:=y j r x D F;exact⟨V,p,q,e,E.below hb,f⟩
theorem Xe.Y3 (h:Xe w base A n c xs):J3 w A n c xs:=by
 obtain⟨f,h1,h2,u⟩:=h;refine⟨f,h1.Gn (by omega),h2,λj r x y E=>?_⟩;obtain⟨V,p,q,e,D,_⟩:=u j r x y E;exact⟨V,p,q,e,D⟩
theorem Xe.Qa (h:Xe w base A n c xs):∀k,q01 A=some k->base<=k/\k<w.1.size:=by
 obtain⟨f,h1,_⟩:=h;exact h1.Qa
theorem Xe.low (h:Xe w base A n c xs){S:NP}(T:Turn S w w')(hS:∀k,S k->k<base):Xe w' base A n c xs:=by
 obtain⟨y,h1,h2,D⟩:=h;refine⟨y,h1.turned T (λk u e=>by have:=(h1.Qa k u).1;have:=hS k e;omega),h2,λj r x F H=>?_⟩;obtain⟨V,p,q,e,G,f⟩:=D j r x F H;exact⟨V,p,q,e,G.turned' T (λE k u e=>by have:=(f E k u).1;have:=hS k e;omega),f⟩
end
theorem ql5 (k:Kd)(V:OA)(p q:Nat):∀y∈[Vx k V p q],∀u∈y,u.oneCell'=true:=by
 intro y D u f;obtain rfl:y=Vx k V p q:=by simpa using D
 simp[Vx] at f;rcases f with rfl|rfl|rfl|rfl<;>rfl
theorem q63 {w:WD}{O:Array Oper}{D:List Oper}{o:Oper}{a:Act}{Q:Exit->Act->WD->Prop}(Z:o.guard=none)(so x:Operand)
  (ho:o.op=.call { callee:=.builtin .append,args:=#[so,x],argTypes:=#[41,41] })
  (base:Nat) (A:OA) (n c:Nat) (xs:List Qc) (W:a.eval so=.slice A n c) (M:Xe w base A n c xs)
  (B:OA) (d:Nat) (y:Qc) (V:OA) (p q:Nat) (G:a.eval x=.slice B 1 d) (u:Jp w 4 B 1 d [Vx y.k V p q]) (hv:Sl w V p q y.v) (a2:y.v≠[]->∀g,q01 V=some g->base<=g/\q01 A≠some g) (hn:n<=100000) (F:base<=w.1.size)
  (h:∀E U w',Xe w' base E (n+1) U (xs++[y])->Turn (λk=>q01 A=some k) w w'->(q01 E=q01 A\/q01 E=some w.1.size)->wpList prog O Q D (a.put o.dst (.slice E (n+1) U)) w'):wpList prog O Q (o::D) a w:=by
 obtain⟨H,h1,h2,h3⟩:=M;refine qbu w P7 Z so x ho base A n c H W h1 B 1 d [Vx y.k V p q] G u (by omega) (ql5 _ _ _ _) (by omega) (by omega) F ?_;intro E U w' R T I _;refine h E U w' ⟨_,R,by simp[h2],λj r x u G=>?_⟩ T I;have old:∀(V:OA) (p q:Nat) (v:LU),Sl w V p q v->(v≠[]->∀g,q01 V=some g->base<=g/\q01 A≠some g)->Sl w' V p q v/\(v≠[]->∀g,q01 V=some g->base<=g/\q01 E≠some g):=by
  intro V p q v W f;refine⟨W.turned' T (λK k hk e=>(f K k hk).2 e),λK g Y=>⟨(f K g Y).1,λe=>?_⟩⟩;rcases I with X|X
  ·exact (f K g Y).2 (X.symm.trans e)
  ·have:=W.Qa K g Y;rw[X] at e;have:=OI e;omega
 by_cases hj:j<H.length
 ·rw[List.getElem?_append_left hj] at u;rw[List.getElem?_append_left (by omega)] at G;obtain⟨V',p',q',e,a1,f⟩:=h3 j r x u G;obtain⟨o1,o2⟩:=old V' p' q' x.v a1 f;exact⟨V',p',q',e,o1,o2⟩
 ·rw[List.getElem?_append_right (by omega)] at u G;have J:j-H.length=0:=by
   have:=(List.getElem?_eq_some_iff.1 u).1;simp at this;omega
  rw[J] at u;rw[<-h2,J] at G;obtain rfl:Vx y.k V p q=r:=by simpa using u
  obtain rfl:y=x:=by simpa using G
  obtain⟨o1,o2⟩:=old V p q y.v hv a2;exact⟨V,p,q,rfl,o1,o2⟩
section
variable {w w':WD}{b:Nat}{l:Int}{A B:OA}{n c m d:Nat}
theorem NB.keep (H:NB w b l A n c B m d)(h:w'.1[b]?=w.1[b]?):NB w' b l A n c B m d:=by
 obtain⟨t,H⟩:=H;exact⟨t,h.trans H⟩
theorem NB.fz (H:NB w b l A n c B m d)(i:Nat):w.frozen? ⟨b,i,none⟩=false:=by
 obtain⟨t,H⟩:=H;unfold World.frozen?;rw[H];simp
theorem NB.set1 (H:NB w b l A n c B m d)(A':OA)(n' c':Nat):NB (w.setCell ⟨b,1,none⟩ (.slice A' n' c')) b l A' n' c' B m d:=by
 obtain⟨t,H⟩:=H;exact⟨t,Fv _ H⟩
theorem NB.set2 (H:NB w b l A n c B m d)(A':OA)(n' c':Nat):NB (w.setCell ⟨b,2,none⟩ (.slice A' n' c')) b l A n c A' n' c':=by
 obtain⟨t,H⟩:=H;exact⟨t,Fv _ H⟩
theorem NB.there (H:NB w b l A n c B m d):w.there b 0 3:=λj f=>by
 obtain⟨t,H⟩:=H;refine⟨?_,by unfold World.frozen?;rw[H];simp⟩;rw[cell_of_row _ _ _ _ _ _ H,AT,Array.getElem?_eq_getElem (by simpa using f)];rfl
theorem NB.stored (H:NB w b l A n c B m d)(l2:Int)(A2:OA)(n2 c2:Nat)(B2:OA)(m2 d2:Nat):NB (w.setCells b 0 [.int .i64 l2,.slice A2 n2 c2,.slice B2 m2 d2]) b l2 A2 n2 c2 B2 m2 d2:=by
 obtain⟨t,H⟩:=H;exact⟨t,Fv _ (Fv _ (Fv _ H))⟩
end
theorem Bj {p:Array Oper}{f:List Oper}{o:Oper}{a:Act}{w:WD}{Q:Exit->Act->WD->Prop}(K:o.guard=none)(x y:Operand)(I:o.op=Op.store 74 x y)
  (b:Nat) (M:a.eval x=.pointer (some ⟨b,0,none⟩)) (E:Int) (q:OA) (G c2:Nat) (u:OA) (F D:Nat) (O:a.eval y=.agg #[.int .i64 E,.slice q G c2,.slice u F D]) {l:Int} {A B:OA} {n c m d:Nat} (H:NB w b l A n c B m d)
  (J:∀w',NB w' b E q G c2 u F D->Turn (λg=>g=b) w w'->wpList prog p Q f (a.put o.dst undef) w'):wpList prog p Q (o::f) a w:=
 wpList_store_mid K _ x y I b 0 #[.int .i64 E,.slice q G c2,.slice u F D] M O H.there (by kernel_rfl) (by simp[Value.oneCell'])
  (J _ (H.stored E q G c2 u F D) (Vp (S:=λg=>g=b) rfl _ 0 w))
def Yh (k:Kd)(v:LU):Bool->List Qc->List Qc
 |done,[]=>if done=true then [] else [⟨k,v⟩]
 |done,x::r=>(if (!done&&(k.less x.k||x.k.same k))=true then [⟨k,v⟩] else [])++((if x.k.same k=true then [] else [x])++Yh k v (done||(k.less x.k||x.k.same k)) r)
theorem q6v (k:Kd)(v:LU):∀(l:List Qc),(∀x∈l,x.k.same k=false)->Yh k v true l=l
 |[],_=>rfl
 |x::r,h=>by
  unfold Yh;rw[h x (AP ..),Bool.true_or,q6v k v r λy f=>h y (AO _ f)];rfl
theorem q0d {a b:Kd}(h:a.less b=true):a.same b=false/\b.same a=false:=by
 constructor
 ·cases f:a.same b with
  |false=>rfl
  |true=>have:=qc7 (a:=b) f;rw[q60,h] at this;cases this
 ·cases f:b.same a with
  |false=>rfl
  |true=>have:=q7n (a:=a) f;rw[q60,h] at this;cases this
theorem q2e {k:Kd}{v:LU}{x:Qc}{r:List Qc}(D:Qo (x::r)) :
  Yh k v false (x::r)=if k.less x.k=true then ⟨k,v⟩::x::r else if x.k.same k=true then ⟨k,v⟩::r else x::Yh k v false r:=by
 obtain⟨h1,h2⟩:=List.pairwise_cons.1 D;rw[Yh];by_cases f:k.less x.k=true
 ·rw[AA f,f];have p:=(q0d f).2;rw[p];show [(⟨k,v⟩:Qc)]++([x]++Yh k v true r)=_;rw[q6v]
  ·rfl
  ·intro y q;exact (q0d (Kd.trans _ _ _ f (h1 y q))).2
 ·have f:k.less x.k=false:=by simpa using f
  rw[f];by_cases p:x.k.same k=true
  ·rw[p];show [(⟨k,v⟩:Qc)]++([]++Yh k v true r)=_;rw[q6v]
   ·rfl
   ·intro y q;have u:=h1 y q;rw[<-qc7 p] at u;exact (q0d u).2
  ·have p:x.k.same k=false:=by simpa using p
   rw[p];rfl
theorem qeg {k:Kd}{v:LU}:∀{l:List Qc},Qo l->∀y∈Yh k v false l,y=⟨k,v⟩\/y∈l
 |[],_,y,hy=>.inl (by simpa [Yh] using hy)
 |x::r,hr,y,hy=>by
  rw[q2e hr] at hy;have f:=(List.pairwise_cons.1 hr).2;split at hy
  ·rcases List.mem_cons.1 hy with h|h
   ·exact .inl h
   ·exact .inr h
  ·split at hy
   ·rcases List.mem_cons.1 hy with h|h
    ·exact .inl h
    ·exact .inr (AO _ h)
   ·rcases List.mem_cons.1 hy with h|h
    ·exact .inr (h▸AP ..)
    ·rcases qeg f y h with h|h
     ·exact .inl h
     ·exact .inr (AO _ h)
theorem qcr {k:Kd}{v:LU}:∀{l:List Qc},Qo l->Qo (Yh k v false l)
 |[],_=>by
  show Qo [⟨k,v⟩];exact List.pairwise_singleton ..
 |x::r,hr=>by
  obtain⟨h1,h2⟩:=List.pairwise_cons.1 hr;rw[q2e hr];split
  ·rename_i p;refine List.pairwise_cons.2 ⟨λy f=>?_,hr⟩;rcases List.mem_cons.1 f with rfl|f
   ·exact p
   ·exact Kd.trans _ _ _ p (h1 y f)
  ·rename_i p;split
   ·rename_i q;exact List.pairwise_cons.2 ⟨λy f=>by show k.less y.k=true;rw[qc7 q];exact h1 y f,h2⟩
   ·rename_i q;have u:x.k.less k=true:=by
     rcases Kd.total x.k k with⟨h,_,_⟩|⟨_,h,_⟩|⟨_,_,h⟩
     ·exact h
     ·exact absurd h p
     ·exact absurd (by rw[h,Kd.same_iff];exact⟨rfl,rfl,rfl⟩) q
    refine List.pairwise_cons.2 ⟨λy f=>?_,qcr h2⟩;rcases qeg h2 y f with rfl|f
    ·exact u
    ·exact h1 y f
theorem ql6 {k:Kd}{v:LU}:∀{l:List Qc},Qo l->(Yh k v false l).length<=l.length+1
 |[],_=>by simp[Yh]
 |x::r,hr=>by
  rw[q2e hr];have:=ql6 (k:=k) (v:=v) (List.pairwise_cons.1 hr).2;split
  ·simp
  ·split<;>simp<;>omega
section
variable {w w':WD}{s n c:Nat}{A:OA}
theorem Jp.drop {xs:List (LV)}(h:Jp w s A n c xs){k:Nat}(hk:k<=n):Jp w s (if c=k then A else A.map (·.add (k*s))) (n-k) (c-k) (xs.drop k):=by
 have E:=h.len;have y:=h.cap;have hm:=h.max;refine⟨by rw[AS];omega,by omega,by omega,λj x f=>?_⟩;rw[List.getElem?_drop] at f;have D:=(List.getElem?_eq_some_iff.1 f).1;obtain⟨g,o,rfl,q,p,u⟩:=h.2.2.2 _ x f;rw[AB (by omega)];refine⟨g,o+k*s,by rw[Option.map_some,Addr.add_mid],q,p,?_⟩;have e:o+k*s+j*s=o+(k+j)*s:=by rw[Nat.add_mul];omega
 rw[e];exact u
theorem J3.drop {xs:List Qc}(h:J3 w A n c xs){k:Nat}(hk:k<=n):J3 w (if c=k then A else A.map (·.add (k*4))) (n-k) (c-k) (xs.drop k):=by
 obtain⟨f,h1,h2,u⟩:=h;refine⟨f.drop k,h1.drop hk,by rw[AS,AS,h2],λj r x p q=>?_⟩;rw[List.getElem?_drop] at p q;exact u _ r x p q
theorem J3.sub {xs:List Qc}(h:J3 w A n c xs){i j:Nat}(hi:i<=j)(hj:j<=n):J3 w (if c=i then A else A.map (·.add (i*4))) (j-i) (c-i) ((xs.drop i).take (j-i)):=(h.drop (by omega)).take (by omega)
theorem Zr.drop {xs:List Qn}(h:Zr w A n c xs){k:Nat}(hk:k<=n):Zr w (if c=k then A else A.map (·.add (k*4))) (n-k) (c-k) (xs.drop k):=by
 have:=Jp.drop h hk;rw[<-List.map_drop] at this;exact this
theorem Zr.sub {xs:List Qn}(h:Zr w A n c xs){i j:Nat}(hi:i<=j)(hj:j<=n):Zr w (if c=i then A else A.map (·.add (i*4))) (j-i) (c-i) ((xs.drop i).take (j-i)):=(h.drop (by omega)).take (by omega)
end
def Uu (l:Int)(A:OA)(n c:Nat)(B:OA)(m d:Nat):LV:=[.int .i64 l,.slice A n c,.slice B m d]
theorem qv2 (l:Int)(A:OA)(n c:Nat)(B:OA)(m d:Nat):∀y∈[Uu l A n c B m d],∀u∈y,u.oneCell'=true:=by
 intro y p u f;obtain rfl:y=Uu l A n c B m d:=by simpa using p
 simp[Uu] at f;rcases f with rfl|rfl|rfl<;>rfl
section
variable {Q:WD->Prop}{w w':WD}{base n c:Nat}{A:OA}{Ns:List Nd}
def Bo (Ns:List Nd)(j:Nat):Nd:=Ns.getD j ⟨0,[],[]⟩
theorem q6w {j:Nat}(h:j<Ns.length):Ns[j]?=some (Bo Ns j):=by simp[Bo,List.getD,h]
end
def Qc6 (a l:Int)(A:OA)(n c:Nat)(B:OA)(m d:Nat):LV:=[.int .i64 a,.int .i64 l,.slice A n c,.slice B m d]
def Qa0 (Q:WD->Prop)(r:LV)(x:Int × Nd):Prop:=∃A n c B m d,r=Qc6 x.1 x.2.lvl A n c B m d/\n<=1000/\m<=1000/\∀w,Q w->J3 w A n c x.2.items/\Zr w B m d x.2.kids
def Anl (Q:WD->Prop)(w:WD)(A:OA)(n c:Nat)(Ns:List (Int × Nd)):Prop:=
 ∃f,Jp w 4 A n c f/\f.length=Ns.length/\∀(j:Nat) r x,f[j]?=some r->Ns[j]?=some x->Qa0 Q r x
section
variable {Q Q':WD->Prop}{w w':WD}{base n c:Nat}{A:OA}{Ns:List (Int × Nd)}
theorem Qa0.mono {r:LV}{x:Int × Nd}(h:Qa0 Q r x)(hq:∀w,Q' w->Q w):Qa0 Q' r x:=by
 obtain⟨f,G,c1,p,F,q,e,y,D,E⟩:=h;exact⟨f,G,c1,p,F,q,e,y,D,λw u=>E w (hq w u)⟩
theorem Anl.mono (h:Anl Q w A n c Ns)(hq:∀w,Q' w->Q w):Anl Q' w A n c Ns:=by
 obtain⟨f,h1,h2,p⟩:=h;exact⟨f,h1,h2,λj r x q u=>(p j r x q u).mono hq⟩
end
section
variable {w w':WD}{base n c:Nat}{A:OA}{xs:List Qc}
end
theorem qzd {l:List Qc}{j:Nat}(h:j<l.length):l.drop j=Zc l j::l.drop (j+1):=by
 have f:=q22 h;rw[AC h] at f;rw[<-List.getElem_cons_drop (h:=h),OI f]
