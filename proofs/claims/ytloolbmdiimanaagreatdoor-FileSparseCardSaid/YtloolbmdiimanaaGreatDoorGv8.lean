/- The reference's May: whether a node may be -/
import Derived.Test.YtloolbmdiimanaaGreatDoorGv6
import Derived.Test.YtloolbmdiimanaaGreatDoorGv7
import Derived.DeepKeys
namespace Go.Proofs.YtloolbmdiimanaaGreatDoor
open Go Go.RowKit Go.Proofs Tryz
set_option maxHeartbeats 4000000
set_option maxRecDepth 10000
def q6h (N:Nd):Bool:=N.items.all λx=>decide (x.v.length<=28)
def Gw (N:Nd):Bool:=N.kids.all λx=>decide (1<=x.a/\x.a<2048)
def Nd.may (N:Nd):Bool:=
 if N.lvl=0 then q6h N&&(rises N.keys&&decide (N.kids.length=0/\1<=N.items.length/\N.items.length<=6))
 else Gw N&&(rises N.keys&&decide (1<=N.lvl/\N.lvl<8/\N.items.length=0/\2<=N.kids.length/\N.kids.length<=12))
theorem qj6 {N:Nd}(h:∀j,j<N.items.length->(Qu N.items j).v.length<=28):q6h N=true:=by
 unfold q6h;rw[List.all_eq_true];intro x g;obtain⟨j,d⟩:=List.mem_iff_getElem?.1 g;have f:=(List.getElem?_eq_some_iff.1 d).1;have:=Et f;rw[d] at this;obtain rfl:=OI this;exact AL (h j f)
theorem qno {N:Nd}(h:∀j,j<N.kids.length->1<=(Qi N.kids j).a/\(Qi N.kids j).a<2048):Gw N=true:=by
 unfold Gw;rw[List.all_eq_true];intro x g;obtain⟨j,d⟩:=List.mem_iff_getElem?.1 g;have f:=(List.getElem?_eq_some_iff.1 d).1;have:=q16 f;rw[d] at this;obtain rfl:=OI this;exact AL (h j f)
theorem qxy (O:Addr)(c:Nat)(l:LU)(w:WD)(E:Sl w (some O) 256 c l)(T:Tab w)(m:¬l.take 4=Ux l):Tv (some O) 256 c l w:=by
 unfold Tv;have R:=E.len;have Q:=E.cap;have hm:=E.max;unfold maxLen at hm;have M:=HB.zero w 94;have f:Below w.1.size w (w.alloc (.cells #[.int .i64 0,.int .i64 0,.int .i64 0,.int .i64 0,.int .i64 0] 94)):=Ql;have B:w.1.size<(w.alloc (.cells #[.int .i64 0,.int .i64 0,.int .i64 0,.int .i64 0,.int .i64 0] 94)).1.size:=by simp
 have p:okB l=false:=AH (λh=>m h.2.1);have h1:Xo l=Hd.zero:=by unfold Xo;rw[AB (by rw[p];simp)]
 have h2:Un l=[]:=by unfold Un;rw[AB (by rw[p];simp)]
 have W:Me l=3:=by unfold Me;rw[AB (by rw[p];simp)]
 rw[h1,h2,W];have g:¬((⟨(l.take 4).toArray⟩:ByteArray)=⟨(Ux l).toArray⟩):=λh=>m (by injection h with h;simpa using h)
 have A:((⟨(l.take 4).toArray⟩:ByteArray).toList==(⟨(Ux l).toArray⟩:ByteArray).toList)=false:=by rw[ByteArray.toList_eq,ByteArray.toList_eq];simpa using m
 generalize X:(⟨(Ux l).toArray⟩:ByteArray)=S1 at g A;generalize y:(⟨(l.take 4).toArray⟩:ByteArray)=S2 at g A;go_enter func72,ntmps72
 go_wp2;generalize (w.alloc (.cells #[.int .i64 0,.int .i64 0,.int .i64 0,.int .i64 0,.int .i64 0] 94))=K at M f B ⊢;have u:=E.below f;have J:=T.below f T.1;have Z:=q8w (u.take (k:=4) (by omega)).drew;rw[y] at Z;go_region_with (first
  |(go_at_call 64;refine (q8b _ 256 c l _ u.drew (by omega) J).mono ?_;rintro e U ⟨A3,n3,c3,rfl,D,G⟩;have d:Below K.1.size K U:=Below.trans (AI _ K).drew G;have k2:=q8w ((u.below d).take (k:=4) (by omega));have k3:=q8w D.sl;rw[y] at k2;rw[X] at k3)
  |fail)
 all_goals
  have F:=M.below d B;have Y:=d.size;go_wp2_with (first
   |(refine D5 rfl (.tmp 2) (.tmp 19) rfl w.1.size rfl Hd.zero _ rfl (by exact F) (by show w.1.size<U.1.size;omega) ?_;intro w4 I H _)
   |fail)
  refine bodyPost_ret (O0 Tryz.results72 rfl (q3c I)) rfl ?_;exact⟨_,_,_,rfl,q2x _ _ _,f.trans ((d.mono (by omega)).trans (H _ (AE _)))⟩
theorem q5s (A:OA)(n c:Nat)(l:LU)(w:WD)(p:Sl w A n c l)(G:Tab w):Tv A n c l w:=by
 have F:=p.len;by_cases hn:n=256
 ·subst hn;obtain⟨E,rfl,_⟩:=p.cell (k:=0) (by omega);by_cases g:l.take 4=Ux l
  ·exact qxx E c l w p G g
  ·exact qxy E c l w p G g
 ·unfold Tv;have d:okB l=false:=AH (λh=>hn (by omega));have h1:Xo l=Hd.zero:=by unfold Xo;rw[AB (by rw[d];simp)]
  have h2:Un l=[]:=by unfold Un;rw[AB (by rw[d];simp)]
  have H:Me l=3:=by unfold Me;rw[AB (by rw[d];simp)]
  rw[h1,h2,H];have y:¬(n:Int)=256:=by omega
  have I:decide ((n:Int)=256)=false:=AH y;have D:=HB.zero w 94;have f:Below w.1.size w (w.alloc (.cells #[.int .i64 0,.int .i64 0,.int .i64 0,.int .i64 0,.int .i64 0] 94)):=Ql;have m:w.1.size<(w.alloc (.cells #[.int .i64 0,.int .i64 0,.int .i64 0,.int .i64 0,.int .i64 0] 94)).1.size:=by simp
  go_enter func72,ntmps72
  go_wp2;generalize (w.alloc (.cells #[.int .i64 0,.int .i64 0,.int .i64 0,.int .i64 0,.int .i64 0] 94))=J at D f m ⊢;go_quiet (fail)
  go_wp2_with (first
   |(refine D5 rfl (.tmp 2) (.tmp 19) rfl w.1.size rfl Hd.zero _ rfl (by exact D) (by exact m) ?_;intro K B u _)
   |fail)
  refine bodyPost_ret (O0 Tryz.results72 rfl (q3c B)) rfl ?_;exact⟨_,_,_,rfl,q2x _ _ _,(q1r f _).trans (u _ (AE _))⟩
theorem qz7 (l:LU)(x n:Int)(h1:1<=n)(h2:n<=8):G5 l x n=l++Q8 x n.toNat:=AA ⟨h1,h2⟩
section
variable {P:Program}{t e:TypeId}(w:WD)
end
def Ew (x:Qb):LU:=x.k.bytes++(Q8 (x.v.length:Int) 1++x.v)
def Eu (x:Qk):LU:=x.k.bytes++Q8 x.a 2
def Nd.body (N:Nd):LU:=N.items.flatMap Ew++N.kids.flatMap Eu
def Nd.head (N:Nd)(addr gen:Int):Hd:=⟨if 0<N.lvl then 4 else 3,addr,(N.items.length:Int)+(N.kids.length:Int),N.lvl,gen⟩
def Jr (N:Nd)(addr gen:Int):LU:=if N.may=true then Xi (N.head addr gen) N.body else []
def Zh (N:Nd)(addr gen:Int):Int:=if N.may=true then Xb (N.head addr gen) N.body else 1
theorem q2z {N:Nd}(h:N.may=true):N.items.length<=6/\N.kids.length<=12/\(∀j,j<N.items.length->(Qu N.items j).v.length<=28)/\0<=N.lvl:=by
 unfold Nd.may at h;split at h
 ·rename_i f;rw[BN,BN] at h;obtain⟨h1,_,h2⟩:=h;have h2:=AK h2;refine⟨h2.2.2,by omega,λj d=>?_,by omega⟩;unfold q6h at h1;exact AK (List.all_eq_true.1 h1 _ (List.mem_of_getElem? (Et d)))
 ·rw[BN,BN] at h;obtain⟨_,_,h2⟩:=h;have h2:=AK h2;exact⟨by omega,h2.2.2.2.2,λj d=>by omega,by omega⟩
theorem qnp (l:LU)(a:Nat):l.foldl (λa b=>256*a+b.toNat) a=a*256 ^ l.length+Qq l:=by
 induction l generalizing a with
 |nil=>simp[Qq]
 |cons b l ih=>
  unfold Qq;rw[List.foldl_cons,List.foldl_cons,ih,ih (256*0+b.toNat),AX,Nat.pow_succ,Nat.add_mul,Nat.add_mul];have e:256*a*256 ^ l.length=a*(256 ^ l.length*256):=by rw[Nat.mul_comm 256 a,Nat.mul_assoc,Nat.mul_comm 256]
  omega
theorem q8f (b:UInt8)(l:LU):Qq (b::l)=b.toNat*256 ^ l.length+Qq l:=by
 have h:=qnp l (256*0+b.toNat);have e:(256*0+b.toNat)*256 ^ l.length=b.toNat*256 ^ l.length:=by rw[Nat.mul_zero,AT]
 rw[e] at h;exact h
theorem qvc (u k:Nat):(low (u:Int) k).toNat=u / 256 ^ k % 256:=by
 unfold low;have e:((u:Int) / 2 ^ (8*k) % 256)=((u / 256 ^ k % 256:Nat):Int):=by
  rw[show (256:Nat) ^ k=2 ^ (8*k) by rw[Nat.pow_mul],Int.natCast_emod,Int.natCast_ediv,Int.natCast_pow];rfl
 rw[e,AJ,UInt8.toNat_ofNat'];omega
theorem qbq (u k:Nat):Qq (Q8 (u:Int) k)=u % 256 ^ k:=by
 induction k with
 |zero=>simp[Q8,Qq,Nat.mod_one]
 |succ k ih=>
  rw[Q8,q8f,Xz,ih,qvc,Nat.mod_pow_succ,Nat.mul_comm];omega
theorem qlf:∀{a b:LU},a.length=b.length->Qq a=Qq b->a=b
 |[],[],_,_=>rfl
 |[],_::_,h,_=>by simp at h
 |_::_,[],h,_=>by simp at h
 |x::a,y::b,h,e=>by
  have d:a.length=b.length:=by simpa using h
  rw[q8f,q8f,d] at e;have h1:=q7p a;have h2:=q7p b;rw[d] at h1;have g:0<256 ^ b.length:=Nat.pow_pos (by omega);have m:(x.toNat*256 ^ b.length+Qq a) / 256 ^ b.length=x.toNat:=by rw[Nat.mul_comm,Nat.mul_add_div g,Nat.div_eq_of_lt h1];omega
  have p:(y.toNat*256 ^ b.length+Qq b) / 256 ^ b.length=y.toNat:=by rw[Nat.mul_comm,Nat.mul_add_div g,Nat.div_eq_of_lt h2];omega
  have f:x.toNat=y.toNat:=by rw[<-m,<-p,e]
  have A:=UInt8.toNat_inj.1 f;subst A;have u:Qq a=Qq b:=by omega
  rw[qlf d u]
def gN (l:LU)(p m:Nat):Nat:=Qq ((l.drop p).take m)
structure Vl where
 name:ByteArray
 ro:Bool
 root:Int
 next:Int
def Vl.vs (v:Vl):LV:=[.string v.name,.bool v.ro,.int .i64 v.root,.int .i64 v.next]
def Vl.v (v:Vl):Value:=.agg #[.string v.name,.bool v.ro,.int .i64 v.root,.int .i64 v.next]
def Vl.zero:Vl:=⟨⟨#[]⟩,false,0,0⟩
def Vl.same (a b:Vl):Bool:=a.name.toList==b.name.toList&&a.ro==b.ro&&a.root==b.root&&a.next==b.next
theorem Vl.ext' {a b:Vl}(h1:a.name=b.name)(h2:a.ro=b.ro)(h3:a.root=b.root)(h4:a.next=b.next):a=b:=by
 cases a;cases b;simp_all
theorem Vl.same_iff (a b:Vl):a.same b=true↔a=b:=by
 unfold Vl.same;rw[ByteArray.toList_eq,ByteArray.toList_eq];constructor
 ·intro h;simp only[BN,beq_iff_eq] at h;obtain⟨⟨⟨h1,h2⟩,d⟩,f⟩:=h;refine Vl.ext' ?_ h2 d f;obtain⟨⟨⟨x⟩⟩,_,_,_⟩:=a;obtain⟨⟨⟨y⟩⟩,_,_,_⟩:=b;simpa using h1
 ·rintro rfl;simp
structure Sp where
 gen:Int
 Qa:Int
 log:Int
 Jq:List Vl
 len:Jq.length=8
def Sp.vs (S:Sp):LV:=.int .i64 S.gen::.int .i64 S.Qa::.int .i64 S.log::S.Jq.flatMap Vl.vs
def Sp.v (S:Sp):Value:=.agg S.vs.toArray
def Sp.zero:Sp:=⟨0,0,0,List.replicate 8 Vl.zero,rfl⟩
def Sp.Ph (S:Sp)(k:Nat)(v:Vl):Sp:=⟨S.gen,S.Qa,S.log,S.Jq.set k v,by rw[List.length_set];exact S.len⟩
def Sp.at_ (S:Sp)(k:Nat):Vl:=S.Jq.getD k Vl.zero
theorem Sp.ext' {a b:Sp}(h1:a.gen=b.gen)(h2:a.Qa=b.Qa)(h3:a.log=b.log)(h4:a.Jq=b.Jq):a=b:=by
 cases a;cases b;simp_all
theorem Sp.get (S:Sp){k:Nat}(hk:k<8):S.Jq[k]?=some (S.at_ k):=by
 have:=S.len;simp[Sp.at_,List.getD,show k<S.Jq.length by omega]
theorem Jh (v:Vl):v.vs.length=4:=rfl
theorem qs1 (l:List Vl):(l.flatMap Vl.vs).length=4*l.length:=by
 induction l with
 |nil=>rfl
 |cons v l ih=>rw[BC,AD,ih,Jh,AX];omega
theorem Sp.Jh (S:Sp):S.vs.length=35:=by unfold Sp.vs;simp only[AX,qs1,S.len]
theorem qvz:∀(l:List Vl) (k:Nat) (v:Vl),l[k]?=some v->∀(j:Nat) x,v.vs[j]?=some x->(l.flatMap Vl.vs)[4*k+j]?=some x
 |[],k,v,h,_,_,_=>by simp at h
 |u::l,0,v,h,j,x,hx=>by
  obtain rfl:u=v:=by simpa using h
  rw[BC,Nat.mul_zero,AT,List.getElem?_append_left (List.getElem?_eq_some_iff.1 hx).1];exact hx
 |u::l,k+1,v,h,j,x,hx=>by
  rw[BC,List.getElem?_append_right (by rw[Go.Proofs.YtloolbmdiimanaaGreatDoor.Jh];omega),Go.Proofs.YtloolbmdiimanaaGreatDoor.Jh,show 4*(k+1)+j-4=4*k+j by omega];exact qvz l k v (by simpa using h) j x hx
theorem Sp.cell (S:Sp){k:Nat}(hk:k<8){j:Nat}{x:Value}(hx:(S.at_ k).vs[j]?=some x):S.vs[3+4*k+j]?=some x:=by
 unfold Sp.vs;rw[show 3+4*k+j=(4*k+j)+1+1+1 by omega];simp only[List.getElem?_cons_succ];exact qvz _ k _ (S.get hk) j x hx
theorem qw0:∀(l:List Vl) (k:Nat) (v:Vl),k<l.length->(l.set k v).flatMap Vl.vs=splice (l.flatMap Vl.vs) (4*k) v.vs
 |[],k,v,h=>by simp at h
 |u::l,0,v,h=>by
  unfold splice;rw[List.set_cons_zero,BC,BC,Nat.mul_zero,List.take_zero,BG,AT,List.drop_left' (by rfl)]
 |u::l,k+1,v,h=>by
  rw[List.set_cons_succ,BC,BC,qw0 l k v (by simpa using h)];unfold splice;rw[show 4*(k+1)=u.vs.length+4*k by rw[Go.Proofs.YtloolbmdiimanaaGreatDoor.Jh];omega,List.take_length_add_append,Nat.add_assoc,List.drop_length_add_append,AM]
theorem Sp.Qbq (S:Sp){k:Nat}(hk:k<8)(v:Vl):(S.Ph k v).vs=splice S.vs (3+4*k) v.vs:=by
 have h:=qw0 S.Jq k v (by rw[S.len];exact hk);unfold Sp.vs Sp.Ph;dsimp only;rw[h];unfold splice;rw[show 3+4*k=4*k+1+1+1 by omega,show 4*k+1+1+1+v.vs.length=(4*k+v.vs.length)+1+1+1 by omega];simp only[List.take_succ_cons,List.drop_succ_cons,List.cons_append]
theorem Sp.one (S:Sp):∀x∈S.vs,x.oneCell'=true:=by
 intro x d;unfold Sp.vs at d;simp only[List.mem_cons,List.mem_flatMap,Vl.vs,List.not_mem_nil,or_false] at d;rcases d with rfl|rfl|rfl|⟨v,_,rfl|rfl|rfl|rfl⟩<;>rfl
def SB (w:WD)(b:Nat)(S:Sp):Prop:=∃t,w.1[b]?=some (.cells S.vs.toArray t (0,0))
def VB (w:WD)(b:Nat)(v:Vl):Prop:=∃t,w.1[b]?=some (.cells v.vs.toArray t (0,0))
section
variable {w w':WD}{b:Nat}{S:Sp}{v:Vl}
theorem SB.new (w:WD)(S:Sp)(t:TypeId):SB (w.alloc (.cells S.vs.toArray t)) w.1.size S:=⟨t,BE w _⟩
theorem VB.new (w:WD)(v:Vl)(t:TypeId):VB (w.alloc (.cells v.vs.toArray t)) w.1.size v:=⟨t,BE w _⟩
theorem SB.lt (H:SB w b S):b<w.1.size:=by
 obtain⟨t,H⟩:=H;exact (Array.getElem?_eq_some_iff.1 H).1
theorem VB.lt (H:VB w b v):b<w.1.size:=by
 obtain⟨t,H⟩:=H;exact (Array.getElem?_eq_some_iff.1 H).1
theorem SB.block (H:SB w b S)(h:w'.1[b]?=w.1[b]?):SB w' b S:=by
 obtain⟨t,H⟩:=H;exact⟨t,h.trans H⟩
theorem VB.block (H:VB w b v)(h:w'.1[b]?=w.1[b]?):VB w' b v:=by
 obtain⟨t,H⟩:=H;exact⟨t,h.trans H⟩
theorem SB.below (H:SB w b S){B:Nat}(hb:Below B w w')(hB:b<B):SB w' b S:=H.block (hb.block b hB)
theorem VB.below (H:VB w b v){B:Nat}(hb:Below B w w')(hB:b<B):VB w' b v:=H.block (hb.block b hB)
theorem SB.range (H:SB w b S):w.rangeAt b 0 S.vs:=λj x d=>by
 obtain⟨t,H⟩:=H;rw[cell_of_row _ _ _ _ _ _ H,AT];simpa using d
theorem VB.range (H:VB w b v):w.rangeAt b 0 v.vs:=λj x d=>by
 obtain⟨t,H⟩:=H;rw[cell_of_row _ _ _ _ _ _ H,AT];simpa using d
theorem SB.c0 (H:SB w b S):w.cell? ⟨b,0,none⟩=some (.int .i64 S.gen):=H.range 0 _ rfl
theorem SB.c1 (H:SB w b S):w.cell? ⟨b,1,none⟩=some (.int .i64 S.Qa):=H.range 1 _ rfl
theorem SB.c2 (H:SB w b S):w.cell? ⟨b,2,none⟩=some (.int .i64 S.log):=H.range 2 _ rfl
theorem VB.c0 (H:VB w b v):w.cell? ⟨b,0,none⟩=some (.string v.name):=H.range 0 _ rfl
theorem VB.c1 (H:VB w b v):w.cell? ⟨b,1,none⟩=some (.bool v.ro):=H.range 1 _ rfl
theorem VB.c2 (H:VB w b v):w.cell? ⟨b,2,none⟩=some (.int .i64 v.root):=H.range 2 _ rfl
theorem VB.c3 (H:VB w b v):w.cell? ⟨b,3,none⟩=some (.int .i64 v.next):=H.range 3 _ rfl
theorem SB.vol (H:SB w b S){k:Nat}(hk:k<8):w.rangeAt b (3+4*k) (S.at_ k).vs:=λj x d=>by
 have:=H.range (3+4*k+j) x (S.cell hk d);rwa [AT] at this
theorem SB.Jq (H:SB w b S):w.rangeAt b 3 (S.Jq.flatMap Vl.vs):=λj x d=>by
 have:=H.range (3+j) x (by unfold Sp.vs;rw[show 3+j=j+1+1+1 by omega];exact d);rwa [AT] at this
theorem SB.Um (H:SB w b S):Jy w 4 (some ⟨b,3,none⟩) 8 8 (S.Jq.map Vl.vs):=by
 refine⟨by rw[AF,S.len],AE _,by unfold maxLen;omega,λj x d=>?_⟩;have f:j<8:=by have:=(List.getElem?_eq_some_iff.1 d).1;rw[AF,S.len] at this;exact this
 rw[BA,S.get f] at d;obtain rfl:(S.at_ j).vs=x:=by simpa using d
 refine⟨b,3,rfl,H.lt,rfl,?_⟩;have:=H.vol f;rwa [Nat.mul_comm] at this
theorem SB.there (H:SB w b S):w.there b 0 35:=λj d=>by
 obtain⟨t,H⟩:=H;refine⟨?_,by unfold World.frozen?;rw[H];simp⟩;rw[cell_of_row _ _ _ _ _ _ H,AT,Array.getElem?_eq_getElem (by rw[List.size_toArray,S.Jh];exact d)];rfl
theorem VB.there (H:VB w b v):w.there b 0 4:=λj d=>by
 obtain⟨t,H⟩:=H;refine⟨?_,by unfold World.frozen?;rw[H];simp⟩;rw[cell_of_row _ _ _ _ _ _ H,AT,Array.getElem?_eq_getElem (by simpa [Vl.vs] using d)];rfl
theorem SB.fz (H:SB w b S)(j:Nat):w.frozen? ⟨b,j,none⟩=false:=by
 obtain⟨t,H⟩:=H;unfold World.frozen?;rw[H];simp
theorem VB.fz (H:VB w b v)(j:Nat):w.frozen? ⟨b,j,none⟩=false:=by
 obtain⟨t,H⟩:=H;unfold World.frozen?;rw[H];simp
end
theorem q4h {w:WD}{b:Nat}{S:Sp}(H:SB w b S):(loadVar 61 ⟨b,0,none⟩).run prog w=.ok S.v w:=
 run_loadVar_mid w b 0 61 S.vs _ H.range underlying61 rfl (by rw[S.Jh];kernel_rfl)
theorem qxz {w:WD}{b:Nat}{v:Vl}(H:VB w b v):(loadVar 58 ⟨b,0,none⟩).run prog w=.ok v.v w:=
 run_loadVar_mid w b 0 58 v.vs _ H.range underlying58 rfl (by kernel_rfl)
theorem q11 {R R':Int->Nd × Int}(h:∀a,(R a).2=0->R' a=R a):∀{l:Nat} {a:Int} {its:List Qb},Qm R l a its->Qm R' l a its
 |0,a,its,hh=>⟨by rw[h a (by rw[hh.1])];exact hh.1,hh.2⟩
 |l+1,a,its,hh=>by
  obtain⟨kids,parts,h1,h2,g,m,d⟩:=hh;exact⟨kids,parts,by rw[h a (by rw[h1])];exact h1,h2,g,m,λj f=>⟨q11 h (d j f).1,(d j f).2⟩⟩
abbrev Zx:=Int × List Qb
def Qn (x:Zx):Qk:=⟨(Qu x.2 0).k,x.1⟩
def rowOf (G:List Zx):List Qb:=(G.map (·.2)).flatten
theorem qf4 {G:List Zx}{j:Nat}(d:j<G.length):Qi (G.map Qn) j=Qn G[j]:=by
 unfold Qi;rw[AG,BA,AC d];rfl
theorem q5t {G:List Zx}{j:Nat}(d:j<G.length):(G.map (·.2)).getD j []=(G[j]).2:=by
 rw[AG,BA,AC d];rfl
theorem qj7 {R:Int->Nd × Int}{l:Nat}{b:Int}{G:List Zx}(h:∀x∈G,Qm R l x.1 x.2)(f:G≠[])(g:R b=(⟨((l+1:Nat):Int),[],G.map Qn⟩,0)):Qm R (l+1) b (rowOf G):=by
 refine⟨G.map Qn,G.map (·.2),g,?_,by rw[AF,AF],rfl,λj d=>?_⟩
 ·intro e;exact f (List.map_eq_nil_iff.1 e)
 ·rw[AF] at d;rw[qf4 d,q5t d];have h1:=h _ (List.getElem_mem d);obtain⟨x,r,e⟩:=q7e h1;exact⟨h1,x,r,e,by unfold Qn Qu;rw[e];rfl⟩
theorem qlg {ks:List Kd}(hm:∀k∈ks,k.may=true)(h:ks.Pairwise λa b=>a.less b=true):rises ks=true:=by
 refine qry λj d=>?_
 have e:∀i,(hi:i<ks.length)->keyAt ks i=ks[i]:=λi hi=>by unfold keyAt;rw[AG,AC hi];rfl
 unfold Ws;rw[e j d,hm _ (List.getElem_mem d),Bool.true_and];by_cases h0:j=0
 ·subst h0;rfl
 ·rw[e (j-1) (by omega),List.pairwise_iff_getElem.1 h (j-1) j (by omega) d (by omega),Bool.or_true]
theorem qvd {p:List Qb}(h1:1<=p.length)(m:p.length<=6)(u:Qg p)(g:∀x∈p,x.k.may=true/\x.v.length<=28):(⟨0,p,[]⟩:Nd).may=true:=by
 unfold Nd.may;rw[AA rfl,BN,BN];refine⟨?_,?_,AL ⟨rfl,h1,m⟩⟩
 ·unfold q6h;rw[List.all_eq_true];exact λx d=>AL (g x d).2
 ·rw[q2p];refine qlg (λk d=>?_) (List.Pairwise.map _ (λ_ _ h=>h) u);obtain⟨x,f,rfl⟩:=List.mem_map.1 d;exact (g x f).1
theorem qs2 {l:Nat}{G:List Zx}(K:l<7)(h2:2<=G.length)(p:G.length<=12)(I:Qg (rowOf G))(H:∀x∈rowOf G,x.k.may=true)(F:∀x∈G,1<=x.1/\x.1<2048)(B:∀x∈G,x.2≠[]):(⟨((l+1:Nat):Int),[],G.map Qn⟩:Nd).may=true:=by
 unfold Nd.may;have h0:¬((l+1:Nat):Int)=0:=by omega
 dsimp only;rw[AB h0,BN,BN];refine⟨?_,?_,AL ⟨by omega,by omega,rfl,by rw[AF];exact h2,by rw[AF];exact p⟩⟩
 ·unfold Gw;rw[List.all_eq_true];intro x d;obtain⟨y,J,rfl⟩:=List.mem_map.1 d;exact AL (F y J)
 ·rw[q7d,List.map_map];have first:∀x∈G,∃y r,x.2=y::r/\(Qn x).k=y.k:=λx d=>by
   match e:x.2,B x d with
   |y::r,_=>exact⟨y,r,rfl,by unfold Qn Qu;rw[e];rfl⟩
  refine qlg (λk d=>?_) ?_
  ·obtain⟨x,f,rfl⟩:=List.mem_map.1 d;obtain⟨y,r,g,m⟩:=first x f
   show (Qn x).k.may=true;rw[m];refine H y ?_;unfold rowOf;rw[List.mem_flatten];exact⟨x.2,List.mem_map_of_mem f,by rw[g];exact AP ..⟩
  ·rw[List.pairwise_map,List.pairwise_iff_getElem];intro i j hi A u;obtain⟨y,r,g,m⟩:=first _ (List.getElem_mem hi)
   obtain⟨z,s,D,E⟩:=first _ (List.getElem_mem A)
   show (Qn G[i]).k.less (Qn G[j]).k=true;rw[m,E];refine q8e I u (by rw[AF];exact A) (x:=y) (y:=z) ?_ ?_
   ·rw[q5t hi,g];exact AP ..
   ·rw[q5t A,D];exact AP ..
def Vb (l:LU)(k a:Int):Bool:=okB l&&decide ((Xo l).kind=k/\(Xo l).addr=a)
def ckH (l:LU)(k a:Int):Hd:=if Vb l k a=true then Xo l else Hd.zero
def ckB (l:LU)(k a:Int):LU:=if Vb l k a=true then l.drop 20 else []
def ckE (l:LU)(k a:Int):Int:=if Vb l k a=true then 0 else 3
theorem qy0 {l:LU}{k a:Int}(h:Vb l k a=false):ckH l k a=Hd.zero/\ckB l k a=[]/\ckE l k a=3:=by
 unfold ckH ckB ckE;rw[h];exact⟨rfl,rfl,rfl⟩
theorem qw1 {l:LU}{k a:Int}(h:Vb l k a=true):ckH l k a=Xo l/\ckB l k a=l.drop 20/\ckE l k a=0:=by
 unfold ckH ckB ckE;rw[h];exact⟨rfl,rfl,rfl⟩
theorem qbr (h:Hd)(l:LU)(_:l.length<=236):(Zk h l).take 4=Q8 (more 0 (Yi h l):Nat) 4/\(Zk h l).drop 4=Yi h l:=
 ⟨List.take_left' (by rw[Xz]),List.drop_left' (by rw[Xz])⟩
theorem Rf (x:Int)(m:Nat)(h0:0<=x)(h1:x<(256 ^ m:Nat)):(Qq (Q8 x m):Int)=x:=by
 obtain⟨u,rfl⟩:=Int.eq_ofNat_of_zero_le h0;rw[qbq,Nat.mod_eq_of_lt (by omega)]
theorem qw2 (h:Hd)(l:LU)(d:h.ok=true)(f:l.length<=236):Gu (((Zk h l).drop 4).take 11)=h:=by
 rw[(qbr h l f).2];have e:(Yi h l).take 11=hdB h:=List.take_left' (q6e h);rw[e];obtain⟨⟨B,D⟩,⟨E,F⟩,⟨c1,c2⟩,⟨G,H⟩,I,J⟩:=AK d;obtain⟨k,a,c,v,g⟩:=h;unfold Gu hdB;dsimp only at *;have m:(Q8 k 1++(Q8 v 1++(Q8 a 2++(Q8 c 2++Q8 g 5)))).take 1=Q8 k 1:=List.take_left' (Xz _ _);have p:((Q8 k 1++(Q8 v 1++(Q8 a 2++(Q8 c 2++Q8 g 5)))).drop 1).take 1=Q8 v 1:=by rw[List.drop_left' (Xz _ _)];exact List.take_left' (Xz _ _)
 have u:((Q8 k 1++(Q8 v 1++(Q8 a 2++(Q8 c 2++Q8 g 5)))).drop 2).take 2=Q8 a 2:=by
  rw[<-AM,List.drop_left' (by simp[Xz])];exact List.take_left' (Xz _ _)
 have y:((Q8 k 1++(Q8 v 1++(Q8 a 2++(Q8 c 2++Q8 g 5)))).drop 4).take 2=Q8 c 2:=by
  rw[<-AM,<-AM,List.drop_left' (by simp[Xz])];exact List.take_left' (Xz _ _)
 have A:((Q8 k 1++(Q8 v 1++(Q8 a 2++(Q8 c 2++Q8 g 5)))).drop 6).take 5=Q8 g 5:=by
  rw[<-AM,<-AM,<-AM,List.drop_left' (by simp[Xz])];exact AN (by rw[Xz];omega)
 rw[m,p,u,y,A,Rf k 1 (by omega) (by omega),Rf v 1 (by omega) (by omega),Rf a 2 (by omega) (by omega),Rf c 2 (by omega) (by omega),Rf g 5 (by omega) (by omega)]
theorem qj8 (h:Hd)(l:LU)(d:h.ok=true)(f:l.length<=236):okB (Zk h l)=true:=by
 obtain⟨m,g⟩:=qbr h l f;refine AL ⟨q9m h l f,?_,by rw[qw2 h l d f];exact d,?_⟩
 ·unfold Ux;rw[m,g]
 ·have e:(Zk h l).drop 15=List.replicate 5 0++(l++List.replicate (236-l.length) 0):=by
   have:(Zk h l).drop 15=(Yi h l).drop 11:=by rw[<-g,List.drop_drop]
   rw[this];exact List.drop_left' (q6e h)
  rw[e,List.take_left' (by simp)];rfl
theorem q9n (h:Hd)(l:LU)(d:l.length<=236):(Zk h l).drop 20=l++List.replicate (236-l.length) 0:=by
 obtain⟨g,f⟩:=qbr h l d;have:(Zk h l).drop 20=(Yi h l).drop 16:=by rw[<-f,List.drop_drop]
 rw[this];unfold Yi;rw[<-AM];exact List.drop_left' (by simp[q6e])
theorem q4i (h:Hd)(l:LU)(d:h.ok=true)(f:l.length<=236):Xo (Zk h l)=h/\Un (Zk h l)=l++List.replicate (236-l.length) 0/\Me (Zk h l)=0:=by
 obtain⟨h1,h2,g⟩:=q5y (qj8 h l d f);exact⟨by rw[h1,qw2 h l d f],by rw[h2,q9n h l f],g⟩
theorem qhe (h:Hd)(l:LU)(d:h.ok=true)(f:l.length<=236)(k a:Int):Vb (Zk h l) k a=decide (h.kind=k/\h.addr=a):=by
 unfold Vb;rw[qj8 h l d f,(q4i h l d f).1,Bool.true_and]
theorem q3d (a:LU)(m:Nat)(h:a.length=m):Q8 (Qq a:Nat) m=a:=by
 subst h;exact qlf (Xz _ _) (by rw[qbq,Nat.mod_eq_of_lt (q7p a)])
theorem qve (r:LU)(h:r.length=11):hdB (Gu r)=r:=by
 unfold hdB Gu;dsimp only;rw[q3d _ 1 (by simp;omega),q3d _ 1 (by simp;omega),q3d _ 2 (by simp;omega),q3d _ 2 (by simp;omega),q3d _ 5 (by simp;omega)];have m:(r.drop 6).take 5=r.drop 6:=AN (by simp;omega);have g:(r.drop 4).take 2++r.drop 6=r.drop 4:=by have:=AV 2 (r.drop 4);rwa [List.drop_drop] at this
 have f:(r.drop 2).take 2++r.drop 4=r.drop 2:=by have:=AV 2 (r.drop 2);rwa [List.drop_drop] at this
 have d:(r.drop 1).take 1++r.drop 2=r.drop 1:=by have:=AV 1 (r.drop 1);rwa [List.drop_drop] at this
 rw[m,g,f,d,AV]
theorem qlh {a:LU}(h:Yc a=true):a=List.replicate a.length 0:=by
 refine List.eq_replicate_iff.2 ⟨rfl,λx d=>?_⟩;simpa using List.all_eq_true.1 h x d
theorem qy1 (l:LU)(h:okB l=true):Xb (Xo l) (l.drop 20)=0/\Xi (Xo l) (l.drop 20)=l:=by
 obtain⟨B,y,f,A⟩:=AK h;have p:=(q5y h).1;have d:(l.drop 20).length<=236:=by simp;omega
 unfold Xb Xi;rw[p,AA f,AA d,AA f,AA d];refine⟨rfl,?_⟩;have u:Yi (Gu ((l.drop 4).take 11)) (l.drop 20)=l.drop 4:=by
  unfold Yi;rw[qve _ (by simp;omega)];have z:=qlh A;rw[show ((l.drop 15).take 5).length=5 by simp;omega] at z;rw[<-z,show 236-(l.drop 20).length=0 by simp;omega];have m:(l.drop 15).take 5++l.drop 20=l.drop 15:=by have:=AV 5 (l.drop 15);rwa [List.drop_drop] at this
  have g:(l.drop 4).take 11++l.drop 15=l.drop 4:=by have:=AV 11 (l.drop 4);rwa [List.drop_drop] at this
  simp only[List.replicate_zero,BM];rw[m,g]
 unfold Zk;rw[u];have:Q8 (more 0 (l.drop 4):Nat) 4=l.take 4:=y.symm;rw[this,AV]
theorem q7f (h:Hd)(l:LU)(d:Xb h l=0):h.ok=true/\l.length<=236/\Xi h l=Zk h l:=by
 unfold Xb at d;unfold Xi;split at d
 ·rename_i f;split at d
  ·rename_i g;exact⟨f,g,by rw[AA f,AA g]⟩
  ·cases d
 ·cases d
def qbs (A:OA)(n c:Nat)(l:LU)(k a:Int)(w:WD):Prop:=
  Calls prog 76 #[.slice A n c,.int .i64 k,.int .i64 a] w λe w'=>
   ∃d g f,e=.returned (.tuple #[(ckH l k a).v,.slice d g f,.int .i64 (ckE l k a)])/\Own w' w.1.size 5 d g f (ckB l k a)/\Below w.1.size w w'
theorem qs3 (A:OA)(n c:Nat)(l:LU)(k a:Int)(w:WD)(hs:Sl w A n c l)(T:Tab w):qbs A n c l k a w:=by
 unfold qbs;have Q:=HB.zero w 94;have d:Below w.1.size w (w.alloc (.cells #[.int .i64 0,.int .i64 0,.int .i64 0,.int .i64 0,.int .i64 0] 94)):=Ql;have p:w.1.size<(w.alloc (.cells #[.int .i64 0,.int .i64 0,.int .i64 0,.int .i64 0,.int .i64 0] 94)).1.size:=by simp
 have R:=λw' (h':Sl w' A n c l) (t':Tab w')=>q5s A n c l w' h' t'
 unfold Tv at R
 cases K:okB l
 ·obtain⟨h1,h2,h3⟩:=qh8 K;have U:Vb l k a=false:=by unfold Vb;rw[K];rfl
  obtain⟨g1,g2,g3⟩:=qy0 U;rw[g1,g2,g3];rw[h1,h2,h3] at R;go_enter func76,ntmps76
  go_wp2_with fail
  generalize (w.alloc (.cells #[.int .i64 0,.int .i64 0,.int .i64 0,.int .i64 0,.int .i64 0] 94))=w1 at Q d p ⊢;go_wp2_with (first
   |(go_at_call 72;refine (R _ (hs.below d) (T.below d T.1)).mono ?_;rintro e J ⟨A3,n3,c3,rfl,I,f⟩;have W:=f.size;have u:=Q.below f p;have B:=d.trans (f.mono d.size))
   |(refine D5 rfl (.tmp 9) (.tmp 15) rfl J.1.size rfl Hd.zero _ rfl (HB.zero J _) (by simp) ?_;intro w6 m E O;obtain⟨M,D,y,X⟩:=U3 m E u B (by omega);have Y:=m 0 _ rfl;have Z:=m 1 _ rfl;simp only[AT] at Y Z)
   |(refine D5 rfl (.tmp 6) (.tmp 20) rfl w.1.size rfl Hd.zero _ rfl y (by omega) ?_;intro wz G F Tz)
   |fail)
  refine bodyPost_ret (O0 Tryz.results76 rfl (q3c G)) rfl ?_;exact⟨_,_,_,rfl,q2x _ _ _,D.trans (F _ (AE _))⟩
 ·obtain⟨h1,h2,h3⟩:=q5y K;rw[h2,h3] at R;clear h1;obtain⟨H,hH⟩:∃H,Xo l=H:=⟨_,rfl⟩;rw[hH] at R;by_cases hm:H.kind=k/\H.addr=a
  ·have a0:Vb l k a=true:=by unfold Vb;rw[K,hH,AL hm];rfl
   obtain⟨g1,g2,g3⟩:=qw1 a0;rw[g1,g2,g3,hH];obtain⟨m1,m2⟩:=hm;go_enter func76,ntmps76
   go_wp2_with fail
   generalize (w.alloc (.cells #[.int .i64 0,.int .i64 0,.int .i64 0,.int .i64 0,.int .i64 0] 94))=w1 at Q d p ⊢;go_wp2_with (first
    |(go_at_call 72;refine (R _ (hs.below d) (T.below d T.1)).mono ?_;rintro e J ⟨A3,n3,c3,rfl,I,f⟩;have W:=f.size;have u:=Q.below f p;have B:=d.trans (f.mono d.size))
    |(refine D5 rfl (.tmp 9) (.tmp 15) rfl J.1.size rfl H _ rfl (HB.zero J _) (by simp) ?_;intro w6 m E O;obtain⟨M,D,y,X⟩:=U3 m E u B (by omega);have Y:=m 0 _ rfl;have Z:=m 1 _ rfl;simp only[AT] at Y Z)
    |(refine q5q rfl (.tmp 9) rfl J.1.size rfl H (by assumption) ?_)
    |(refine D5 rfl (.tmp 6) (.tmp 33) rfl w.1.size rfl H _ rfl y (by omega) ?_;intro wz G F Tz)
    |fail)
   refine bodyPost_ret (O0 Tryz.results76 rfl (q3c G)) rfl ?_;have a1:=I.turn (w':=wz) λg hg hl=>(Tz.block g (by omega) (by show ¬g=w.1.size;omega)).trans ((O.block g (by rw[BH];omega) (by show ¬g=J.1.size;omega)).trans (Below.heap_alloc _ _ _ hl))
   exact⟨_,_,_,rfl,a1.less d.size,D.trans (F _ (AE _))⟩
  ·have U:Vb l k a=false:=by unfold Vb;rw[K,hH,AH hm];rfl
   obtain⟨g1,g2,g3⟩:=qy0 U;rw[g1,g2,g3];by_cases m1:H.kind=k
   ·have m2:¬H.addr=a:=λh=>hm ⟨m1,h⟩
    have m3:decide (H.addr=a)=false:=AH m2;go_enter func76,ntmps76
    go_wp2_with fail
    generalize (w.alloc (.cells #[.int .i64 0,.int .i64 0,.int .i64 0,.int .i64 0,.int .i64 0] 94))=w1 at Q d p ⊢;go_wp2_with (first
     |(go_at_call 72;refine (R _ (hs.below d) (T.below d T.1)).mono ?_;rintro e J ⟨A3,n3,c3,rfl,I,f⟩;have W:=f.size;have u:=Q.below f p;have B:=d.trans (f.mono d.size))
     |(refine D5 rfl (.tmp 9) (.tmp 15) rfl J.1.size rfl H _ rfl (HB.zero J _) (by simp) ?_;intro w6 m E O;obtain⟨M,D,y,X⟩:=U3 m E u B (by omega);have Y:=m 0 _ rfl;have Z:=m 1 _ rfl;simp only[AT] at Y Z)
     |(refine D5 rfl (.tmp 6) (.tmp 32) rfl w.1.size rfl Hd.zero _ rfl y (by omega) ?_;intro wz G F Tz)
     |fail)
    refine bodyPost_ret (O0 Tryz.results76 rfl (q3c G)) rfl ?_;exact⟨_,_,_,rfl,q2x _ _ _,D.trans (F _ (AE _))⟩
   ·have m3:decide (H.kind=k)=false:=AH m1;go_enter func76,ntmps76
    go_wp2_with fail
    generalize (w.alloc (.cells #[.int .i64 0,.int .i64 0,.int .i64 0,.int .i64 0,.int .i64 0] 94))=w1 at Q d p ⊢;go_wp2_with (first
     |(go_at_call 72;refine (R _ (hs.below d) (T.below d T.1)).mono ?_;rintro e J ⟨A3,n3,c3,rfl,I,f⟩;have W:=f.size;have u:=Q.below f p;have B:=d.trans (f.mono d.size))
     |(refine D5 rfl (.tmp 9) (.tmp 15) rfl J.1.size rfl H _ rfl (HB.zero J _) (by simp) ?_;intro w6 m E O;obtain⟨M,D,y,X⟩:=U3 m E u B (by omega);have Y:=m 0 _ rfl;have Z:=m 1 _ rfl;simp only[AT] at Y Z)
     |(refine D5 rfl (.tmp 6) (.tmp 32) rfl w.1.size rfl Hd.zero _ rfl y (by omega) ?_;intro wz G F Tz)
     |fail)
    refine bodyPost_ret (O0 Tryz.results76 rfl (q3c G)) rfl ?_;exact⟨_,_,_,rfl,q2x _ _ _,D.trans (F _ (AE _))⟩
