/- The program's Open reads a block as P4.2 says, or refuses -/
import Derived.Test.YtnnbaihfboacoaaGreatDoorEu11
namespace Go.Proofs.YtnnbaihfboacoaaGreatDoor
open Go Go.RowKit Go.Proofs
set_option maxHeartbeats 8000000
set_option maxRecDepth 100000
theorem q0u {y:Func}{p a b:Tmp}{ty:TypeId}{u:Addr}{v:Value}{P:Program}{w:World}{f:Array Value}(h:y.results=#[.cell p ty,.tmp a,.tmp b])(E:f.getD p undef=.pointer (some u))(D:(loadVar ty u).run P w=.ok v w) :
  (results y f).run P w=.ok (.tuple #[v,f.getD a undef,f.getD b undef]) w:=by
 have e:(results y f).run P w=((asAddr (f.getD p undef)).run P w).andThen λu F=>((loadVar ty u).run P F).andThen λv G=>.ok (.tuple #[v,f.getD a undef,f.getD b undef]) G:=by
  simp only[results,h];simp[Sem.run_bind,Result.andThen]
 rw[e,E];simp[asAddr,D]
theorem q88 {w:World}{b:Nat}{h:Hd}(f:w.rangeAt b 0 h.vs):(loadVar 150 ⟨b,0,none⟩).run Tryz.prog w=.ok h.v w:=
 run_loadVar_mid w b 0 150 h.vs _ f Tryz.underlying150 rfl (by kernel_rfl)
theorem Pg {w:World}{A:Option Addr}{n c:Nat}{l:List UInt8}(h:Sl w A n c l):(convert 31 9 (.slice A n c)).run Tryz.prog w=.ok (.string ⟨l.toArray⟩) w:=
 q64 _ _ _ Gy Tryz.underlying5 Tryz.underlying9 h
def okB (l:List UInt8):Bool:=decide (l.length=256/\l.take 4=Ut l/\(G6 ((l.drop 4).take 11)).ok=true/\Y3 ((l.drop 15).take 5)=true)
def Yq (l:List UInt8):Hd:=if okB l=true then G6 ((l.drop 4).take 11) else Hd.zero
def Un (l:List UInt8):List UInt8:=if okB l=true then l.drop 20 else []
def Na (l:List UInt8):Int:=if okB l=true then 0 else 3
theorem q89 {ops:Array Oper}{f:List Oper}{o:Oper}{a:Act}{w:World}{Q:Exit->Act->World->Prop}(y:o.guard=none)(x:Operand)(p:o.op=Op.load 150 x)
  (b:Nat) (D:a.eval x=.pointer (some ⟨b,0,none⟩)) (h:Hd) (H:w.rangeAt b 0 h.vs) (u:wpList Tryz.prog ops Q f (a.put o.dst h.v) w):wpList Tryz.prog ops Q (o::f) a w:=
 wpList_load_mid y _ x p b 0 D h.vs _ H Tryz.underlying150 rfl (by kernel_rfl) u
theorem q4d {w w':World}{b:Nat}{vs:List Value}(h:w.rangeAt b 0 vs){B:Nat}(u:Below B w w')(f:b<B):w'.rangeAt b 0 vs:=λj v y=>(u.cell (p:=⟨b,0+j,none⟩) f).trans (h j v y)
theorem qwy (n:Nat):(zrs n).length=n:=List.length_replicate
theorem qn0 (L C:List UInt8)(h:L.length=C.length):splice L 0 C=C:=by
 unfold splice;rw[List.take_zero,List.nil_append,List.drop_of_length_le (by omega),List.append_nil]
theorem Lp {w f p:World}{H:Hd}{o:Obj}(E:p.rangeAt f.1.size 0 H.vs)(u:∀B,B<=f.1.size->Below B (f.alloc o) p)(y:HB f w.1.size Hd.zero)(D:Below w.1.size w f)(F:w.1.size<f.1.size) :
  p.rangeAt f.1.size 0 H.vs/\Below w.1.size w p/\HB p w.1.size Hd.zero/\f.1.size<p.1.size:=by
 have h1:Below f.1.size f p:=((Below.refl _ _).alloc (Nat.le_refl _) o).trans (u _ (Nat.le_refl _));have h2:=(u _ (Nat.le_refl _)).size;rw[World.size_alloc] at h2;exact⟨E,D.trans (h1.mono (by omega)),y.below h1 F,by omega⟩
theorem cuts {w:World}{f:Addr}{c:Nat}{l:List UInt8}(p:Sl w (some f) 256 c l):Sl w (some (f.add 15)) 5 (c-15) ((l.drop 15).take 5)/\Sl w (some (f.add 20)) 236 (c-20) (l.drop 20):=by
 have u:=p.cap;have h1:=(p.drop (k:=15) (by omega)).take (k:=5) (by omega);have h2:=p.drop (k:=20) (by omega);rw[if_neg (by omega)] at h1 h2;exact⟨h1,h2⟩
def q21 (A:Option Addr)(n c:Nat)(l:List UInt8)(w:World):Prop:=
  Calls Tryz.prog 97 #[.slice A n c] w λe w'=>
   ∃f u p,e=.returned (.tuple #[(Yq l).v,.slice f u p,.int .i64 (Na l)])/\Own w' w.1.size 5 f u p (Un l)/\Below w.1.size w w'
theorem qik {l:List UInt8}(h:okB l=false):Yq l=Hd.zero/\Un l=[]/\Na l=3:=by
 unfold Yq Un Na;rw[h];exact⟨rfl,rfl,rfl⟩
theorem q78 {l:List UInt8}(h:okB l=true):Yq l=G6 ((l.drop 4).take 11)/\Un l=l.drop 20/\Na l=0:=by
 unfold Yq Un Na;rw[h];exact⟨rfl,rfl,rfl⟩
theorem qwz (ad:Addr)(c:Nat)(l:List UInt8)(w:World)(hs:Sl w (some ad) 256 c l)(ht:Tab w)(c6:l.take 4=Ut l):q21 (some ad) 256 c l w:=by
 unfold q21;have a8:=hs.len;have d5:=hs.cap;have hm:=hs.max;unfold maxLen at hm;have HZ:=HB.zero w 150;have O:Below w.1.size w (w.alloc (.cells #[.int .i64 0,.int .i64 0,.int .i64 0,.int .i64 0,.int .i64 0] 150)):=Qm;have c8:w.1.size<(w.alloc (.cells #[.int .i64 0,.int .i64 0,.int .i64 0,.int .i64 0,.int .i64 0] 150)).1.size:=by simp
 obtain⟨H,hH⟩:∃H,G6 ((l.drop 4).take 11)=H:=⟨_,rfl⟩;have b5:=congrArg (λx:List UInt8=>(⟨x.toArray⟩:ByteArray)) c6;obtain⟨S1,hS⟩:∃S1,(⟨(Ut l).toArray⟩:ByteArray)=S1:=⟨_,rfl⟩;have b6:(⟨(l.take 4).toArray⟩:ByteArray)=S1:=b5.trans hS;clear b5;go_enter Tryz.func97,Tryz.ntmps97
 go_wp2;generalize (w.alloc (.cells #[.int .i64 0,.int .i64 0,.int .i64 0,.int .i64 0,.int .i64 0] 150))=w1 at HZ O c8 ⊢;have X:=hs.below O;have d4:=ht.below O ht.1;have k1:=Pg (X.take (k:=4) (by omega)).drew;rw[b6] at k1;go_region_with (first
  |(go_at_call 125;refine (q87 _ 256 c l _ X.drew (by omega) d4).mono ?_;rintro e w3 ⟨A3,n3,c3,rfl,b0,b8⟩;have F:Below w1.1.size w1 w3:=Below.trans (Below.refl _ w1).drew b8;have k2:=Pg ((X.below F).take (k:=4) (by omega));have k3:=Pg b0.sl;rw[b6] at k2;rw[hS] at k3)
  |fail)
 all_goals
  have b1:=HZ.below F c8;have d8:=F.size;have d2:=X.below F;have I:=O.trans (F.mono O.size);have a6:=(d2.drop (k:=4) (by omega)).take (k:=11) (by omega);rw[if_neg (show ¬c=4 by omega)] at a6;clear k1 k2 k3 b0 b8 X HZ
  cases T:H.ok
  ·have b2:okB l=false:=decide_eq_false (λh=>by have:=h.2.2.1;rw[hH,T] at this;cases this);go_wp2_with (first
    |(go_at_call 133;refine (q54 _ (c-4) _ _ a6).mono ?_;rw[hH];rintro e w5 ⟨rfl,u⟩;have J:=b1.below u (by omega);have c9:=u.size)
    |(refine Pz rfl (.tmp 5) (.tmp 22) rfl w5.1.size rfl H _ rfl (HB.zero w5 _) (by simp) ?_;intro w6 U Q _;obtain⟨p,E,K,a1⟩:=Lp U Q J (I.trans (u.mono I.size)) (by omega))
    |(refine q89 rfl (.tmp 5) rfl w5.1.size rfl H (by first|exact p|assumption) ?_)
    |(go_at_call 123;refine (q3u H _).mono ?_;rw[T];rintro e w7 ⟨rfl,f⟩;have M:=K.below f (by omega);have y:=E.trans (f.mono E.size);have b3:=q4d p f a1;have d0:=f.size;have Z:=hs.below y;obtain⟨G,Y⟩:=cuts Z)
    |(refine Pz rfl (.tmp 2) (.tmp 32) rfl w.1.size rfl Hd.zero _ rfl M (by omega) ?_;intro wz W R Tz)
    |fail)
   refine bodyPost_ret (q0u Tryz.results97 rfl (q88 W)) rfl ?_;obtain⟨h1,h2,h3⟩:=qik (l:=l) b2;rw[h1,h2,h3];exact⟨_,_,_,rfl,q55 _ _ _,y.trans (R _ (Nat.le_refl _))⟩
  ·cases a7:Y3 ((l.drop 15).take 5)
   ·have b2:okB l=false:=decide_eq_false (λh=>by have:=h.2.2.2;rw[a7] at this;cases this);go_wp2_with (first
     |(go_at_call 133;refine (q54 _ (c-4) _ _ a6).mono ?_;rw[hH];rintro e w5 ⟨rfl,u⟩;have J:=b1.below u (by omega);have c9:=u.size)
     |(refine Pz rfl (.tmp 5) (.tmp 22) rfl w5.1.size rfl H _ rfl (HB.zero w5 _) (by simp) ?_;intro w6 U Q _;obtain⟨p,E,K,a1⟩:=Lp U Q J (I.trans (u.mono I.size)) (by omega))
     |(refine q89 rfl (.tmp 5) rfl w5.1.size rfl H (by first|exact p|assumption) ?_)
     |(go_at_call 123;refine (q3u H _).mono ?_;rw[T];rintro e w7 ⟨rfl,f⟩;have M:=K.below f (by omega);have y:=E.trans (f.mono E.size);have b3:=q4d p f a1;have d0:=f.size;have Z:=hs.below y;obtain⟨G,Y⟩:=cuts Z)
     |(go_at_call 134;refine (qb7 _ 5 (c-15) _ w7 G).mono ?_;rw[a7];rintro e w8 ⟨rfl,rfl⟩)
     |(refine Pz rfl (.tmp 2) (.tmp 32) rfl w.1.size rfl Hd.zero _ rfl M (by omega) ?_;intro wz W R Tz)
     |fail)
    refine bodyPost_ret (q0u Tryz.results97 rfl (q88 W)) rfl ?_;obtain⟨h1,h2,h3⟩:=qik (l:=l) b2;rw[h1,h2,h3];exact⟨_,_,_,rfl,q55 _ _ _,y.trans (R _ (Nat.le_refl _))⟩
   ·have c7:okB l=true:=decide_eq_true ⟨a8,c6,by rw[hH];exact T,a7⟩;go_wp2_with (first
     |(go_at_call 133;refine (q54 _ (c-4) _ _ a6).mono ?_;rw[hH];rintro e w5 ⟨rfl,u⟩;have J:=b1.below u (by omega);have c9:=u.size)
     |(refine Pz rfl (.tmp 5) (.tmp 22) rfl w5.1.size rfl H _ rfl (HB.zero w5 _) (by simp) ?_;intro w6 U Q _;obtain⟨p,E,K,a1⟩:=Lp U Q J (I.trans (u.mono I.size)) (by omega))
     |(refine q89 rfl (.tmp 5) rfl w5.1.size rfl H (by first|exact p|assumption) ?_)
     |(go_at_call 123;refine (q3u H _).mono ?_;rw[T];rintro e w7 ⟨rfl,f⟩;have M:=K.below f (by omega);have y:=E.trans (f.mono E.size);have b3:=q4d p f a1;have d0:=f.size;have Z:=hs.below y;obtain⟨G,Y⟩:=cuts Z)
     |(go_at_call 134;refine (qb7 _ 5 (c-15) _ w7 G).mono ?_;rw[a7];rintro e w8 ⟨rfl,rfl⟩)
     |(at_make;refine q77 _ Gy rfl _ _ rfl _ _ 236 rfl rfl (by omega) ?_;intro w9 d1 b9;have d3:=Sl.below Y b9)
     |((with_reducible show wpList _ _ _ _ _ _);refine qb6 Gy rfl (.tmp 34) (.tmp 36) rfl w7.1.size w7.1.size 236 _ d1 0 236 236 rfl _ 236 (c-20) _ rfl d3 (by omega) (by omega) ?_;intro d9 a2 b7;have D:=b9.trans b7;have b4:=M.below D (by omega);have d6:=q4d b3 D (by omega);have d7:=D.size)
     |(refine Pz rfl (.tmp 2) (.tmp 38) rfl w.1.size rfl H _ rfl b4 (by omega) ?_;intro wz W R Tz)
     |fail)
    refine bodyPost_ret (q0u Tryz.results97 rfl (q88 W)) rfl ?_;obtain⟨h1,h2,h3⟩:=q78 (l:=l) c7;rw[h1,h2,h3,hH];rw[qn0 _ _ (by rw[qwy,List.length_drop,a8])] at a2;exact⟨_,_,_,rfl,(a2.turn λg hg hl=>Tz.block g hl (by show ¬g=w.1.size;omega)).less y.size,y.trans ((D.mono y.size).trans (R _ (Nat.le_refl _)))⟩
theorem qx0 (W:Addr)(c:Nat)(l:List UInt8)(w:World)(J:Sl w (some W) 256 c l)(Z:Tab w)(y:¬l.take 4=Ut l):q21 (some W) 256 c l w:=by
 unfold q21;have Y:=J.len;have X:=J.cap;have hm:=J.max;unfold maxLen at hm;have U:=HB.zero w 150;have p:Below w.1.size w (w.alloc (.cells #[.int .i64 0,.int .i64 0,.int .i64 0,.int .i64 0,.int .i64 0] 150)):=Qm;have H:w.1.size<(w.alloc (.cells #[.int .i64 0,.int .i64 0,.int .i64 0,.int .i64 0,.int .i64 0] 150)).1.size:=by simp
 have D:okB l=false:=decide_eq_false (λh=>y h.2.1);have h1:Yq l=Hd.zero:=by unfold Yq;rw[if_neg (by rw[D];simp)]
 have h2:Un l=[]:=by unfold Un;rw[if_neg (by rw[D];simp)]
 have h3:Na l=3:=by unfold Na;rw[if_neg (by rw[D];simp)]
 rw[h1,h2,h3];have u:¬((⟨(l.take 4).toArray⟩:ByteArray)=⟨(Ut l).toArray⟩):=λh=>y (by injection h with h;simpa using h)
 have G:((⟨(l.take 4).toArray⟩:ByteArray).toList==(⟨(Ut l).toArray⟩:ByteArray).toList)=false:=by rw[ByteArray.toList_eq,ByteArray.toList_eq];simpa using y
 generalize hS:(⟨(Ut l).toArray⟩:ByteArray)=S1 at u G;generalize F:(⟨(l.take 4).toArray⟩:ByteArray)=S2 at u G;go_enter Tryz.func97,Tryz.ntmps97
 go_wp2;generalize (w.alloc (.cells #[.int .i64 0,.int .i64 0,.int .i64 0,.int .i64 0,.int .i64 0] 150))=T at U p H ⊢;have E:=J.below p;have R:=Z.below p Z.1;have k1:=Pg (E.take (k:=4) (by omega)).drew;rw[F] at k1;go_region_with (first
  |(go_at_call 125;refine (q87 _ 256 c l _ E.drew (by omega) R).mono ?_;rintro e w3 ⟨A3,n3,c3,rfl,I,M⟩;have f:Below T.1.size T w3:=Below.trans (Below.refl _ T).drew M;have k2:=Pg ((E.below f).take (k:=4) (by omega));have k3:=Pg I.sl;rw[F] at k2;rw[hS] at k3)
  |fail)
 all_goals
  have K:=U.below f H;have a1:=f.size;go_wp2_with (first
   |(refine Pz rfl (.tmp 2) (.tmp 19) rfl w.1.size rfl Hd.zero _ rfl (by exact K) (by show w.1.size<w3.1.size;omega) ?_;intro w4 Q O _)
   |fail)
  refine bodyPost_ret (q0u Tryz.results97 rfl (q88 Q)) rfl ?_;exact⟨_,_,_,rfl,q55 _ _ _,p.trans ((f.mono (by omega)).trans (O _ (Nat.le_refl _)))⟩
theorem q5v (A:Option Addr)(n c:Nat)(l:List UInt8)(w:World)(D:Sl w A n c l)(K:Tab w):q21 A n c l w:=by
 have J:=D.len;by_cases hn:n=256
 ·subst hn;obtain⟨I,rfl,_⟩:=D.cell (k:=0) (by omega);by_cases u:l.take 4=Ut l
  ·exact qwz I c l w D K u
  ·exact qx0 I c l w D K u
 ·unfold q21;have f:okB l=false:=decide_eq_false (λh=>hn (by omega));have h1:Yq l=Hd.zero:=by unfold Yq;rw[if_neg (by rw[f];simp)]
  have h2:Un l=[]:=by unfold Un;rw[if_neg (by rw[f];simp)]
  have M:Na l=3:=by unfold Na;rw[if_neg (by rw[f];simp)]
  rw[h1,h2,M];have F:¬(n:Int)=256:=by omega
  have O:decide ((n:Int)=256)=false:=decide_eq_false F;have H:=HB.zero w 150;have p:Below w.1.size w (w.alloc (.cells #[.int .i64 0,.int .i64 0,.int .i64 0,.int .i64 0,.int .i64 0] 150)):=Qm;have y:w.1.size<(w.alloc (.cells #[.int .i64 0,.int .i64 0,.int .i64 0,.int .i64 0,.int .i64 0] 150)).1.size:=by simp
  go_enter Tryz.func97,Tryz.ntmps97
  go_wp2;generalize (w.alloc (.cells #[.int .i64 0,.int .i64 0,.int .i64 0,.int .i64 0,.int .i64 0] 150))=Q at H p y ⊢;go_quiet (fail)
  go_wp2_with (first
   |(refine Pz rfl (.tmp 2) (.tmp 19) rfl w.1.size rfl Hd.zero _ rfl (by exact H) (by exact y) ?_;intro R G E _)
   |fail)
  refine bodyPost_ret (q0u Tryz.results97 rfl (q88 G)) rfl ?_;exact⟨_,_,_,rfl,q55 _ _ _,(q1g p _).trans (E _ (Nat.le_refl _))⟩
def lenV:Value->Nat
 |.slice _ n _=>n
 |_=>0
theorem qy7 (l:List UInt8)(x n:Int)(h1:1<=n)(h2:n<=8):Ce l x n=l++Zc x n.toNat:=if_pos ⟨h1,h2⟩
section
variable {P:Program}{t e:TypeId}(w:World)
end
def Fe (x:Qc):List UInt8:=x.k.bytes++(Zc (x.v.length:Int) 1++x.v)
def Fb (x:Ql):List UInt8:=x.k.bytes++Zc x.a 2
def Nd.body (N:Nd):List UInt8:=N.items.flatMap Fe++N.kids.flatMap Fb
def Nd.head (N:Nd)(addr gen:Int):Hd:=⟨if 0<N.lvl then 4 else 3,addr,(N.items.length:Int)+(N.kids.length:Int),N.lvl,gen⟩
def Jm (N:Nd)(addr gen:Int):List UInt8:=if N.may=true then Xo (N.head addr gen) N.body else []
def Zk (N:Nd)(addr gen:Int):Int:=if N.may=true then Xi (N.head addr gen) N.body else 1
theorem q36 {N:Nd}(h:N.may=true):N.items.length<=6/\N.kids.length<=12/\(∀j,j<N.items.length->(Qj N.items j).v.length<=28)/\0<=N.lvl:=by
 unfold Nd.may at h;split at h
 ·rename_i p;rw[Bool.and_eq_true,Bool.and_eq_true] at h;obtain⟨h1,_,h2⟩:=h;have h2:=of_decide_eq_true h2;refine⟨h2.2.2,by omega,λj f=>?_,by omega⟩;unfold q6e at h1;exact of_decide_eq_true (List.all_eq_true.1 h1 _ (List.mem_of_getElem? (q11 f)))
 ·rw[Bool.and_eq_true,Bool.and_eq_true] at h;obtain⟨_,_,h2⟩:=h;have h2:=of_decide_eq_true h2;exact⟨by omega,h2.2.2.2.2,λj f=>by omega,by omega⟩
theorem qn2 (l:List UInt8)(a:Nat):l.foldl (λa b=>256*a+b.toNat) a=a*256 ^ l.length+Q8 l:=by
 induction l generalizing a with
 |nil=>simp[Q8]
 |cons b l ih=>
  unfold Q8;rw[List.foldl_cons,List.foldl_cons,ih,ih (256*0+b.toNat),List.length_cons,Nat.pow_succ,Nat.add_mul,Nat.add_mul];have e:256*a*256 ^ l.length=a*(256 ^ l.length*256):=by rw[Nat.mul_comm 256 a,Nat.mul_assoc,Nat.mul_comm 256]
  omega
theorem q8a (b:UInt8)(l:List UInt8):Q8 (b::l)=b.toNat*256 ^ l.length+Q8 l:=by
 have h:=qn2 l (256*0+b.toNat);have e:(256*0+b.toNat)*256 ^ l.length=b.toNat*256 ^ l.length:=by rw[Nat.mul_zero,Nat.zero_add]
 rw[e] at h;exact h
theorem qui (u k:Nat):(low (u:Int) k).toNat=u / 256 ^ k % 256:=by
 unfold low;have e:((u:Int) / 2 ^ (8*k) % 256)=((u / 256 ^ k % 256:Nat):Int):=by
  rw[show (256:Nat) ^ k=2 ^ (8*k) by rw[Nat.pow_mul],Int.natCast_emod,Int.natCast_ediv,Int.natCast_pow];rfl
 rw[e,Int.toNat_natCast,UInt8.toNat_ofNat'];omega
theorem qba (u k:Nat):Q8 (Zc (u:Int) k)=u % 256 ^ k:=by
 induction k with
 |zero=>simp[Zc,Q8,Nat.mod_one]
 |succ k ih=>
  rw[Zc,q8a,Yl,ih,qui,Nat.mod_pow_succ,Nat.mul_comm];omega
theorem ql0:∀{a b:List UInt8},a.length=b.length->Q8 a=Q8 b->a=b
 |[],[],_,_=>rfl
 |[],_::_,h,_=>by simp at h
 |_::_,[],h,_=>by simp at h
 |x::a,y::b,h,e=>by
  have f:a.length=b.length:=by simpa using h
  rw[q8a,q8a,f] at e;have h1:=q7g a;have h2:=q7g b;rw[f] at h1;have u:0<256 ^ b.length:=Nat.pow_pos (by omega);have D:(x.toNat*256 ^ b.length+Q8 a) / 256 ^ b.length=x.toNat:=by rw[Nat.mul_comm,Nat.mul_add_div u,Nat.div_eq_of_lt h1];omega
  have E:(y.toNat*256 ^ b.length+Q8 b) / 256 ^ b.length=y.toNat:=by rw[Nat.mul_comm,Nat.mul_add_div u,Nat.div_eq_of_lt h2];omega
  have p:x.toNat=y.toNat:=by rw[<-D,<-E,e]
  have G:=UInt8.toNat_inj.1 p;subst G;have F:Q8 a=Q8 b:=by omega
  rw[ql0 f F]
def gN (l:List UInt8)(p m:Nat):Nat:=Q8 ((l.drop p).take m)
theorem Qbb (s:ByteArray)(w:World):(convert 9 31 (.string s)).run Tryz.prog w=.ok (.slice (some ⟨w.1.size,0,none⟩) s.size (grownCap w s.size 0 5)) (Lib.bytesWorld w 5 s):=
 Lib.run_convert_string_bytes w 9 31 5 s Tryz.underlying9 Tryz.underlying31 Tryz.underlying5
def ttY (l:List UInt8):Bool:=decide (1<=l.length/\1+Q8 (l.take 1)<=l.length)
def Iy (l:List UInt8):List UInt8:=if ttY l=true then bodyT l 1 else []
def Nq (l:List UInt8):List UInt8:=if ttY l=true then Uw l 1 else []
def Il (l:List UInt8):Int:=if ttY l=true then 0 else 2
theorem qxj (l:List UInt8):(Iy l).length<=l.length:=by
 unfold Iy;split
 ·exact qka l 1
 ·simp
theorem qv3 (l:List UInt8):(Wp l).length<=l.length:=by
 unfold Wp;split<;>simp
def t2Y (l:List UInt8):Bool:=decide (2<=l.length)
def Pm (l:List UInt8):Int:=if t2Y l=true then (Q8 (l.take 2):Int) else 0
def Np (l:List UInt8):List UInt8:=if t2Y l=true then l.drop 2 else []
def Ik (l:List UInt8):Int:=if t2Y l=true then 0 else 2
def Xh (N:Nd)(r:List UInt8):Option (Nd × List UInt8):=
 if U9 r=0 then
  if N.lvl=0 then if Il (Wp r)=0 then some (⟨N.lvl,N.items++[⟨G8 r,Iy (Wp r)⟩],N.kids⟩,Nq (Wp r)) else none
  else if Ik (Wp r)=0 then some (⟨N.lvl,N.items,N.kids++[⟨G8 r,Pm (Wp r)⟩]⟩,Np (Wp r)) else none
 else none
def Jt (l:Int)(body:List UInt8):Nat->Option (Nd × List UInt8)
 |0=>some (⟨l,[],[]⟩,body)
 |j+1=>match Jt l body j with
  |some (N,r)=>Xh N r
  |none=>none
theorem q4p (l:Int)(body:List UInt8)(j:Nat)(N:Nd)(r:List UInt8)(h:Jt l body j=some (N,r)):Jt l body (j+1)=Xh N r:=by
 show (match Jt l body j with|some (N,r)=>Xh N r|none=>none)=_;rw[h]
theorem q9u (l:Int)(body:List UInt8)(j k:Nat)(h:Jt l body j=none)(f:j<=k):Jt l body k=none:=by
 induction k with
 |zero=>
  obtain rfl:j=0:=by omega
  exact h
 |succ k ih=>
  rcases (by omega:j<=k\/j=k+1) with h1|rfl
  ·show (match Jt l body k with|some (N,r)=>Xh N r|none=>none)=_;rw[ih h1]
  ·exact h
def qdp (b:List UInt8):Nat:=min (Yq b).count.toNat 20
def qdq (b:List UInt8)(addr gen:Int):Option (Nd × List UInt8)->Option Nd
 |some (N,_)=>if Zk N addr gen=0/\Jm N addr gen=b then some N else none
 |none=>none
def Ij (b:List UInt8)(addr:Int):Option Nd:=if Na b=0 then qdq b addr (Yq b).gen (Jt (Yq b).level (Un b) (qdp b)) else none
theorem qv4 {b:List UInt8}(h:Na b=0):(Yq b).ok=true:=by
 cases f:okB b
 ·obtain⟨_,_,p⟩:=qik f;rw[p] at h;omega
 ·obtain⟨h1,_,_⟩:=q78 f;rw[h1];exact (of_decide_eq_true f).2.2.1
section
variable {w w':World}{b:Nat}{l:Int}{A B:Option Addr}{n c m d:Nat}
theorem NB.keep (H:NB w b l A n c B m d)(h:w'.1[b]?=w.1[b]?):NB w' b l A n c B m d:=by
 obtain⟨t,H⟩:=H;exact⟨t,h.trans H⟩
theorem NB.fz (H:NB w b l A n c B m d)(i:Nat):w.frozen? ⟨b,i,none⟩=false:=by
 obtain⟨t,H⟩:=H;unfold World.frozen?;rw[H];simp
theorem NB.set1 (H:NB w b l A n c B m d)(A':Option Addr)(n' c':Nat):NB (w.setCell ⟨b,1,none⟩ (.slice A' n' c')) b l A' n' c' B m d:=by
 obtain⟨t,H⟩:=H;exact⟨t,Fa _ H⟩
theorem NB.set2 (H:NB w b l A n c B m d)(A':Option Addr)(n' c':Nat):NB (w.setCell ⟨b,2,none⟩ (.slice A' n' c')) b l A n c A' n' c':=by
 obtain⟨t,H⟩:=H;exact⟨t,Fa _ H⟩
theorem NB.there (H:NB w b l A n c B m d):w.there b 0 3:=λj f=>by
 obtain⟨t,H⟩:=H;refine⟨?_,by unfold World.frozen?;rw[H];simp⟩;rw[cell_of_row _ _ _ _ _ _ H,Nat.zero_add,Array.getElem?_eq_getElem (by simpa using f)];rfl
theorem NB.stored (H:NB w b l A n c B m d)(l2:Int)(A2:Option Addr)(n2 c2:Nat)(B2:Option Addr)(m2 d2:Nat):NB (w.setCells b 0 [.int .i64 l2,.slice A2 n2 c2,.slice B2 m2 d2]) b l2 A2 n2 c2 B2 m2 d2:=by
 obtain⟨t,H⟩:=H;exact⟨t,Fa _ (Fa _ (Fa _ H))⟩
end
theorem Gt {ops:Array Oper}{f:List Oper}{o:Oper}{a:Act}{w:World}{Q:Exit->Act->World->Prop}(K:o.guard=none)(x y:Operand)(I:o.op=Op.store 75 x y)
  (b:Nat) (M:a.eval x=.pointer (some ⟨b,0,none⟩)) (E:Int) (p:Option Addr) (G c2:Nat) (u:Option Addr) (F D:Nat) (O:a.eval y=.agg #[.int .i64 E,.slice p G c2,.slice u F D]) {l:Int} {A B:Option Addr} {n c m d:Nat} (H:NB w b l A n c B m d)
  (J:∀w',NB w' b E p G c2 u F D->Turn (λg=>g=b) w w'->wpList Tryz.prog ops Q f (a.put o.dst undef) w'):wpList Tryz.prog ops Q (o::f) a w:=
 wpList_store_mid K _ x y I b 0 #[.int .i64 E,.slice p G c2,.slice u F D] M O H.there (by kernel_rfl) (by simp[Value.oneCell'])
  (J _ (H.stored E p G c2 u F D) (Us (S:=λg=>g=b) rfl _ 0 w))
theorem qfu (A:Option Addr)(n c:Nat)(l:List UInt8)(x:Qc)(B:Option Addr)(m d:Nat)(w:World)(h:Sl w A n c l)(hv:Sl w B m d x.v)(hm:m<=28)(hn:n<=100000) :
  Calls Tryz.prog 192 #[.slice A n c,.agg #[.int .i64 x.k.obj,.int .i64 x.k.kind,.int .i64 x.k.off,.slice B m d]] w λe w'=>∃A' n' c',e=.returned (.slice A' n' c')/\n'=n+10+m/\Own w' w.1.size 5 A' n' c' (l++Fe x)/\Below w.1.size w w':=by
 have E:=Lib.hid h.len;have H:=Lib.hid hv.len;obtain⟨X,R⟩:∃X:ByteArray,(⟨x.v.toArray⟩:ByteArray)=X:=⟨_,rfl⟩;have Xs:X.size=m:=by rw[<-R,<-H.out];rfl
 have Xd:=Lib.hid (show X.data.toList=x.v by rw[<-R]);have u:∀w':World,Below w.1.size w w'->(convert 31 9 (.slice B m d)).run Tryz.prog w'=.ok (.string X) w':=λw' F=>by
  have:=Ny (hv.below F);rw[R] at this;exact this
 clear R;obtain⟨k,Y⟩:∃k,x.k=k:=⟨_,rfl⟩;have Hk:=Lib.hid Y;rw[Y];clear Y;go_enter Tryz.func192,Tryz.ntmps192
 go_wp2_with fail
 have I:Below w.1.size w (w.alloc (.cells #[.int .i64 k.obj,.int .i64 k.kind,.int .i64 k.off,.slice B m d] 68)):=Qm;have J:(w.alloc (.cells #[.int .i64 k.obj,.int .i64 k.kind,.int .i64 k.off,.slice B m d] 68)).1[w.1.size]?=some (.cells #[.int .i64 k.obj,.int .i64 k.kind,.int .i64 k.off,.slice B m d] 68 (0,0)):=heap_alloc_new w _;have M:w.1.size<(w.alloc (.cells #[.int .i64 k.obj,.int .i64 k.kind,.int .i64 k.off,.slice B m d] 68)).1.size:=by simp
 generalize w.alloc (.cells #[.int .i64 k.obj,.int .i64 k.kind,.int .i64 k.off,.slice B m d] 68)=f at I J M ⊢;have q0:f.cell? ⟨w.1.size,0,none⟩=some (.int .i64 k.obj):=by rw[cell_of_row _ _ _ _ _ _ J];rfl
 have q1:f.cell? ⟨w.1.size,1,none⟩=some (.int .i64 k.kind):=by rw[cell_of_row _ _ _ _ _ _ J];rfl
 have q2:f.cell? ⟨w.1.size,2,none⟩=some (.int .i64 k.off):=by rw[cell_of_row _ _ _ _ _ _ J];rfl
 have q3:f.cell? ⟨w.1.size,3,none⟩=some (.slice B m d):=by rw[cell_of_row _ _ _ _ _ _ J];rfl
 clear J;have Z:=h.below I;have Q:∀w':World,Below f.1.size f w'->w'.cell? ⟨w.1.size,0,none⟩=some (.int .i64 k.obj)/\w'.cell? ⟨w.1.size,1,none⟩=some (.int .i64 k.kind)/\w'.cell? ⟨w.1.size,2,none⟩=some (.int .i64 k.off)/\w'.cell? ⟨w.1.size,3,none⟩=some (.slice B m d)/\(convert 31 9 (.slice B m d)).run Tryz.prog w'=.ok (.string X) w'/\Below f.1.size f w':=
  λw' F=>⟨(F.cell (p:=⟨w.1.size,_,none⟩) M).trans q0,(F.cell (p:=⟨w.1.size,_,none⟩) M).trans q1,(F.cell (p:=⟨w.1.size,_,none⟩) M).trans q2,(F.cell (p:=⟨w.1.size,_,none⟩) M).trans q3,u w' (I.trans (F.mono I.size)),F⟩
 have T:Below f.1.size f f.drew:=(Below.refl _ f).drew;have zr:f.1.size<=f.drew.1.size:=Nat.le_refl _;have p0:n<=4398046511104:=by omega
 have pX:X.size<=255:=by omega
 clear q0 q1 q2 q3;have O:=Lib.hid u;clear u;go_region_held3 (λw'=>w'.cell? ⟨w.1.size,0,none⟩=some (.int .i64 k.obj)/\w'.cell? ⟨w.1.size,1,none⟩=some (.int .i64 k.kind)/\w'.cell? ⟨w.1.size,2,none⟩=some (.int .i64 k.off)/\w'.cell? ⟨w.1.size,3,none⟩=some (.slice B m d)/\(convert 31 9 (.slice B m d)).run Tryz.prog w'=.ok (.string X) w'/\Below f.1.size f w')
  (first|assumption|exact Q _ T|exact Q _ y|exact Q _ K)
  (first
   |(go_at_call 210;have hh:=y;refine (qga A5 n5 c5 _ X _ G.sl p5 pX).mono ?_;rintro e w6 ⟨A6,n6,c6,rfl,D,W⟩;have K:Below f.1.size f w6:=y.trans (W.mono y.size))
   |(go_at_call 211;refine (qkv A n c l k _ Z.drew p0).mono ?_;rintro e w5 ⟨A5,n5,c5,rfl,G,U⟩;have y:Below f.1.size f w5:=T.trans (U.mono zr);have l5:n5=n+9:=(by have:=G.len;rw[List.length_append,E.out,Kd.Yb] at this;omega);have p5:n5<=17592186044416:=(by omega);have a1:=Lib.hid l5;clear l5)
   |fail)
 all_goals
  have e6:l++k.bytes++(Zc (X.size:Int) 1++X.data.toList)=l++Fe x:=by
   unfold Fe;rw[Xd.out,Xs,H.out,Hk.out,List.append_assoc]
  have l6:=Lib.hid (show n6=n+10+m by have:=D.len;rw[List.length_append,List.length_append,List.length_append,E.out,Kd.Yb,Yl,Xd.out,H.out] at this;omega);rw[e6] at D;have B6:=I.trans (K.mono I.size);have o6:=D.less (show w.1.size<=w5.1.size from Nat.le_trans I.size y.size);clear Q T;go_wp2;go_ret;exact⟨_,_,_,rfl,l6.out,o6,B6⟩
theorem qhu (A:Option Addr)(n c:Nat)(l:List UInt8)(x:Ql)(w:World)(h:Sl w A n c l)(hn:n<=100000) :
  Calls Tryz.prog 194 #[.slice A n c,.agg #[.int .i64 x.k.obj,.int .i64 x.k.kind,.int .i64 x.k.off,.int .i64 x.a]] w λe w'=>∃A' Y c',e=.returned (.slice A' Y c')/\Y=n+11/\Own w' w.1.size 5 A' Y c' (l++Fb x)/\Below w.1.size w w':=by
 have D:=Lib.hid h.len;have F:Fb x=x.k.bytes++Zc x.a 2:=rfl;obtain⟨k,W⟩:∃k,x.k=k:=⟨_,rfl⟩;obtain⟨a,R⟩:∃a,x.a=a:=⟨_,rfl⟩;rw[W,R] at F;have Q:=Lib.hid F;rw[W,R];clear W R F;go_enter Tryz.func194,Tryz.ntmps194
 go_wp2_with fail
 have H:Below w.1.size w (w.alloc (.cells #[.int .i64 k.obj,.int .i64 k.kind,.int .i64 k.off,.int .i64 a] 81)):=Qm;have G:(w.alloc (.cells #[.int .i64 k.obj,.int .i64 k.kind,.int .i64 k.off,.int .i64 a] 81)).1[w.1.size]?=some (.cells #[.int .i64 k.obj,.int .i64 k.kind,.int .i64 k.off,.int .i64 a] 81 (0,0)):=heap_alloc_new w _;have K:w.1.size<(w.alloc (.cells #[.int .i64 k.obj,.int .i64 k.kind,.int .i64 k.off,.int .i64 a] 81)).1.size:=by simp
 generalize w.alloc (.cells #[.int .i64 k.obj,.int .i64 k.kind,.int .i64 k.off,.int .i64 a] 81)=f at H G K ⊢;have q0:f.cell? ⟨w.1.size,0,none⟩=some (.int .i64 k.obj):=by rw[cell_of_row _ _ _ _ _ _ G];rfl
 have q1:f.cell? ⟨w.1.size,1,none⟩=some (.int .i64 k.kind):=by rw[cell_of_row _ _ _ _ _ _ G];rfl
 have q2:f.cell? ⟨w.1.size,2,none⟩=some (.int .i64 k.off):=by rw[cell_of_row _ _ _ _ _ _ G];rfl
 have q3:f.cell? ⟨w.1.size,3,none⟩=some (.int .i64 a):=by rw[cell_of_row _ _ _ _ _ _ G];rfl
 clear G;have X:=h.below H;have M:∀w':World,Below f.1.size f w'->w'.cell? ⟨w.1.size,0,none⟩=some (.int .i64 k.obj)/\w'.cell? ⟨w.1.size,1,none⟩=some (.int .i64 k.kind)/\w'.cell? ⟨w.1.size,2,none⟩=some (.int .i64 k.off)/\w'.cell? ⟨w.1.size,3,none⟩=some (.int .i64 a)/\Below f.1.size f w':=
  λw' J=>⟨(J.cell (p:=⟨w.1.size,_,none⟩) K).trans q0,(J.cell (p:=⟨w.1.size,_,none⟩) K).trans q1,(J.cell (p:=⟨w.1.size,_,none⟩) K).trans q2,(J.cell (p:=⟨w.1.size,_,none⟩) K).trans q3,J⟩
 have O:Below f.1.size f f.drew:=(Below.refl _ f).drew;have zr:f.1.size<=f.drew.1.size:=Nat.le_refl _;have p0:n<=4398046511104:=by omega
 have r1:(1:Int)<=2:=by omega
 have r2:(2:Int)<=8:=by omega
 clear q0 q1 q2 q3;go_region_held3 (λw'=>w'.cell? ⟨w.1.size,0,none⟩=some (.int .i64 k.obj)/\w'.cell? ⟨w.1.size,1,none⟩=some (.int .i64 k.kind)/\w'.cell? ⟨w.1.size,2,none⟩=some (.int .i64 k.off)/\w'.cell? ⟨w.1.size,3,none⟩=some (.int .i64 a)/\Below f.1.size f w')
  (first|assumption|exact M _ O|exact M _ u|exact M _ I)
  (first
   |(go_at_call 126;have hh:=u;refine (q73 A5 Z c5 _ a 2 _ E.sl p5 r1 r2).mono ?_;rintro e w6 ⟨A6,n6,c6,rfl,y,a2,U⟩;have I:Below f.1.size f w6:=u.trans (U.mono u.size))
   |(go_at_call 211;refine (qkv A n c l k _ X.drew p0).mono ?_;rintro e w5 ⟨A5,Z,c5,rfl,E,T⟩;have u:Below f.1.size f w5:=O.trans (T.mono zr);have l5:Z=n+9:=(by have:=E.len;rw[List.length_append,D.out,Kd.Yb] at this;omega);have p5:Z<=17592186044416:=(by omega);have a1:=Lib.hid l5;clear l5)
   |fail)
 all_goals
  have e6:l++k.bytes++Zc a (2:Int).toNat=l++Fb x:=by
   rw[Q.out,List.append_assoc];rfl
  have l6:=Lib.hid (show n6=n+11 by have:=y.len;rw[List.length_append,List.length_append,D.out,Kd.Yb,Yl] at this;rw[<-this];rfl);rw[e6] at y;have B6:=H.trans (I.mono H.size);have o6:=y.less (show w.1.size<=w5.1.size from Nat.le_trans H.size u.size);clear M O;go_wp2;go_ret;exact⟨_,_,_,rfl,l6.out,o6,B6⟩
def bI (xs:List Qc)(j:Nat):List UInt8:=(xs.take j).flatMap Fe
def bK (xs:List Ql)(j:Nat):List UInt8:=(xs.take j).flatMap Fb
theorem qwa (xs:List Qc)(j:Nat)(h:j<xs.length):bI xs (j+1)=bI xs j++Fe (Qj xs j):=by
 unfold bI;have:=q11 h;rw[List.getElem?_eq_getElem h] at this;rw[List.take_succ_eq_append_getElem h,List.flatMap_append,Option.some.inj this];simp
theorem qwb (xs:List Ql)(j:Nat)(h:j<xs.length):bK xs (j+1)=bK xs j++Fb (Qg xs j):=by
 unfold bK;have:=Rf h;rw[List.getElem?_eq_getElem h] at this;rw[List.take_succ_eq_append_getElem h,List.flatMap_append,Option.some.inj this];simp
theorem qxv (xs:List Qc):bI xs xs.length=xs.flatMap Fe:=by unfold bI;rw[List.take_length]
theorem qxw (xs:List Ql):bK xs xs.length=xs.flatMap Fb:=by unfold bK;rw[List.take_length]
theorem qow (xs:List Qc)(A:Option Addr)(n c:Nat)(w:World)(R:Zl w A n c xs)(hn:n<=1000)(hv:∀j,j<n->(Qj xs j).v.length<=28) :
  Calls Tryz.prog 191 #[.slice A n c,.func (.func 192) #[] #[]] w λe w'=>∃y n' F,e=.returned (.slice y n' F)/\n'<=38*n/\Sl w' y n' F (xs.flatMap Fe)/\(∀u,y=some u->w.1.size<=u.block)/\Below w.1.size w w':=by
 have D:=Lib.hid R.len;have Hv:=Lib.hid hv;clear hv;obtain⟨a2,W⟩:=R.bounds;unfold maxLen at W;go_enter Tryz.func191,Tryz.ntmps191
 go_wp2_with fail
 go_loopw [5,10] (λb i wr=>∃(j q:Nat) (y:Option Addr) (F:Nat),j<=n/\q<=38*j/\i=.int .i64 (j:Int)/\b=.slice y q F/\Sl wr y q F (bI xs j)/\(∀u,y=some u->w.1.size<=u.block)/\Below w.1.size w wr) (λ_ i _=>n-(intOf i).toNat)
 case atStart=>exact⟨0,0,_,_,Nat.zero_le _,by omega,rfl,rfl,q24 _,(λu h=>by cases h),Below.refl _ _⟩
 case round=>
  obtain⟨j,q,y,F,hj,hq,rfl,rfl,Y,hO,J⟩:=hrel;by_cases G:j<n
  ·have T:=R.below J;obtain⟨g,o,B',m',d',hA,hg,c0,c1,c2,c3,H⟩:=T.cell G;have E:=Hv.out j G;rw[H.len] at E;subst hA;have p:=Lib.hid (qwa xs j (by rw[D.out];exact G));obtain⟨x,hx⟩:∃x,Qj xs j=x:=⟨_,rfl⟩;rw[hx] at c0 c1 c2 H p;clear hx;go_wp2_with fail
   have I:Below wr.1.size wr (wr.alloc (.cells #[.int .i64 x.k.obj,.int .i64 x.k.kind,.int .i64 x.k.off,.slice B' m' d'] 68)):=Qm;refine (qfu y q F _ x B' m' d' _ (Y.below I) (H.below I) E (by omega)).mono ?_;rintro e w2 ⟨A2,n2,O,rfl,M,f,K⟩;have Q:=J.trans ((I.trans (K.mono I.size)).mono J.size);have X:n2<=38*(j+1):=by omega
   have a1:=Lib.hid M;clear M;rw[<-p.out] at f;have Z:=f.sl;have U:∀u,A2=some u->w.1.size<=u.block:=λu h=>by have h1:=(f.block u h).1;have h2:=J.size;have h3:=I.size;omega
   clear hO;clear f I;go_wp2;exact⟨⟨j+1,n2,A2,O,by omega,X,by go_num,rfl,Z,U,Q⟩,by simp[intOf];omega⟩
  ·obtain rfl:j=n:=by omega
   have e:bI xs j=xs.flatMap Fe:=by rw[<-D.out];exact qxv xs
   rw[e] at Y;go_wp2;go_ret;exact⟨_,_,_,rfl,hq,Y,hO,J⟩
theorem qox (xs:List Ql)(A:Option Addr)(n c:Nat)(w:World)(O:Zm w A n c xs)(hn:n<=1000) :
  Calls Tryz.prog 193 #[.slice A n c,.func (.func 194) #[] #[]] w λe w'=>∃y Y E,e=.returned (.slice y Y E)/\Y<=11*n/\Sl w' y Y E (xs.flatMap Fb)/\(∀u,y=some u->w.1.size<=u.block)/\Below w.1.size w w':=by
 have D:=Lib.hid O.len;skip
 skip
 obtain⟨a2,T⟩:=O.bounds;unfold maxLen at T;go_enter Tryz.func193,Tryz.ntmps193
 go_wp2_with fail
 go_loopw [5,10] (λb i wr=>∃(j q:Nat) (y:Option Addr) (E:Nat),j<=n/\q<=11*j/\i=.int .i64 (j:Int)/\b=.slice y q E/\Sl wr y q E (bK xs j)/\(∀u,y=some u->w.1.size<=u.block)/\Below w.1.size w wr) (λ_ i _=>n-(intOf i).toNat)
 case atStart=>exact⟨0,0,_,_,Nat.zero_le _,by omega,rfl,rfl,q24 _,(λu h=>by cases h),Below.refl _ _⟩
 case round=>
  obtain⟨j,q,y,E,hj,hq,rfl,rfl,W,hO,G⟩:=hrel;by_cases I:j<n
  ·have Q:=O.below G;obtain⟨g,o,hA,hg,c0,c1,c2,c3⟩:=Q.cell I;subst hA;have p:=Lib.hid (qwb xs j (by rw[D.out];exact I));obtain⟨x,hx⟩:∃x,Qg xs j=x:=⟨_,rfl⟩;rw[hx] at c0 c1 c2 c3 p;clear hx;go_wp2_with fail
   have F:Below wr.1.size wr (wr.alloc (.cells #[.int .i64 x.k.obj,.int .i64 x.k.kind,.int .i64 x.k.off,.int .i64 x.a] 81)):=Qm;refine (qhu y q E _ x _ (W.below F) (by omega)).mono ?_;rintro e w2 ⟨Z,n2,K,rfl,J,f,H⟩;have M:=G.trans ((F.trans (H.mono F.size)).mono G.size);have U:n2<=11*(j+1):=by omega
   have a1:=Lib.hid J;clear J;rw[<-p.out] at f;have X:=f.sl;have R:∀u,Z=some u->w.1.size<=u.block:=λu h=>by have h1:=(f.block u h).1;have h2:=G.size;have h3:=F.size;omega
   clear hO;clear f F;go_wp2;exact⟨⟨j+1,n2,Z,K,by omega,U,by go_num,rfl,X,R,M⟩,by simp[intOf];omega⟩
  ·obtain rfl:j=n:=by omega
   have e:bK xs j=xs.flatMap Fb:=by rw[<-D.out];exact qxw xs
   rw[e] at W;go_wp2;go_ret;exact⟨_,_,_,rfl,hq,W,hO,G⟩
theorem qoy {N:Nd}(addr gen:Int){n:Nat}{K:Int}(p:N.lvl=0)(hm:N.may=true)(hn:N.items.length=n)(f:(if N.lvl=0 then 3 else 4)=K):N.head addr gen=⟨K,addr,(n:Int),N.lvl,gen⟩/\N.body=N.items.flatMap Fe:=by
 rw[if_pos p] at f;have u:N.kids=[]:=by
  refine List.eq_nil_of_length_eq_zero ?_;unfold Nd.may at hm;rw[if_pos p,Bool.and_eq_true,Bool.and_eq_true] at hm;exact (of_decide_eq_true hm.2.2).1
 unfold Nd.head Nd.body;rw[u,hn,if_neg (by omega),f];simp
theorem qm8 {N:Nd}(addr gen:Int){m:Nat}{K:Int}(p:¬N.lvl=0)(hm:N.may=true)(hn:N.kids.length=m)(f:(if N.lvl=0 then 3 else 4)=K):N.head addr gen=⟨K,addr,(m:Int),N.lvl,gen⟩/\N.body=N.kids.flatMap Fb:=by
 rw[if_neg p] at f;unfold Nd.may at hm;rw[if_neg p,Bool.and_eq_true,Bool.and_eq_true] at hm;have h2:=of_decide_eq_true hm.2.2;have u:N.items=[]:=List.eq_nil_of_length_eq_zero h2.2.2.1;unfold Nd.head Nd.body;rw[u,hn,if_pos (by omega),f];simp
theorem qfv {w:World}{b:Nat}{K addr lvl gen x y:Int}(H:HB w b ⟨K,addr,x,lvl,gen⟩):HB (w.setCell ⟨b,2,none⟩ (.int .i64 y)) b ⟨K,addr,y,lvl,gen⟩:=H.Vr 3 y
theorem qcc (N:Nd)(addr gen:Int)(A:Option Addr)(n c:Nat)(B:Option Addr)(m d:Nat)(w:World)(hI:Zl w A n c N.items)(hK:Zm w B m d N.kids)(hn:n<=1000)(hm:m<=1000)(ht:Tab w) :
  Calls Tryz.prog 168 #[.agg #[.int .i64 N.lvl,.slice A n c,.slice B m d],.int .i64 addr,.int .i64 gen] w λe w'=>∃A' n' c',e=.returned (.tuple #[.slice A' n' c',.int .i64 (Zk N addr gen)])/\Own w' w.1.size 5 A' n' c' (Jm N addr gen)/\(Zk N addr gen=0->∃g,A'=some ⟨g,0,none⟩/\n'=256/\c'=256)/\Below w.1.size w w':=by
 have b5:=Lib.hid hI.len;have b6:=Lib.hid hK.len;go_enter Tryz.func168,Tryz.ntmps168
 go_wp2_with fail
 have N1:NB (w.alloc (.cells #[.int .i64 N.lvl,.slice A n c,.slice B m d] 75)) w.1.size N.lvl A n c B m d:=NB.new w _ _ _ _ _ _ _ _;have b1:Below w.1.size w (w.alloc (.cells #[.int .i64 N.lvl,.slice A n c,.slice B m d] 75)):=Qm;generalize w.alloc (.cells #[.int .i64 N.lvl,.slice A n c,.slice B m d] 75)=w1 at N1 b1 ⊢
 cases J:N.may
 ·refine (q2l N false J A n c B m d w1 (hI.below b1) (hK.below b1) hn hm).mono ?_;rintro e f ⟨rfl,a7⟩;go_wp2;go_ret2;have h1:Zk N addr gen=1:=by unfold Zk;rw[J];rfl
  have h2:Jm N addr gen=[]:=by unfold Jm;rw[J];rfl
  rw[h1,h2];exact⟨_,_,_,rfl,qes _ _ _,(λh=>by cases h),b1.trans (a7.mono b1.size)⟩
 ·refine (q2l N true J A n c B m d w1 (hI.below b1) (hK.below b1) hn hm).mono ?_;rintro e f ⟨rfl,a7⟩;have N2:=N1.below a7 N1.lt;have B2:=b1.trans (a7.mono b1.size);have n0:=N2.c0;obtain⟨_,_,a6,_⟩:=q36 J;have Hv:=Lib.hid a6;have E:=Lib.hid J;clear a6;obtain⟨K,a8⟩:∃K:Int,(if N.lvl=0 then 3 else 4)=K:=⟨_,rfl⟩;have b0:=Lib.hid a8;clear a8;have zn:=N2.lt;have Q:∀w':World,Below f.1.size f w'->w'.cell? ⟨w.1.size,0,none⟩=some (.int .i64 N.lvl)/\Below f.1.size f w':=
   λw' Y=>⟨(Y.cell (p:=⟨w.1.size,_,none⟩) zn).trans n0,Y⟩
  have U:Below f.1.size f f.drew:=(Below.refl _ f).drew;go_wp2_with fail
  go_region_held3 (λw'=>w'.cell? ⟨w.1.size,0,none⟩=some (.int .i64 N.lvl)/\Below f.1.size f w')
   (first|assumption|exact Q _ U|exact Q _ (U.alloc (Nat.le_refl _) _))
   (first
    |(go_at_call 112;refine (q4c N.lvl K b0.out _).mono ?_;rintro e w3 ⟨rfl,rfl⟩)
    |fail)
  all_goals
   have H3:HB (f.alloc (.cells #[.int .i64 K,.int .i64 addr,.int .i64 0,.int .i64 N.lvl,.int .i64 gen] 150)).drew f.1.size ⟨K,addr,0,N.lvl,gen⟩:=⟨_,heap_alloc_new f _⟩;have b3:Below f.1.size f (f.alloc (.cells #[.int .i64 K,.int .i64 addr,.int .i64 0,.int .i64 N.lvl,.int .i64 gen] 150)).drew:=((Below.refl _ f).alloc (Nat.le_refl _) _).drew;have I:f.1.size<(f.alloc (.cells #[.int .i64 K,.int .i64 addr,.int .i64 0,.int .i64 N.lvl,.int .i64 gen] 150)).drew.1.size:=by simp
   clear Q U;generalize (f.alloc (.cells #[.int .i64 K,.int .i64 addr,.int .i64 0,.int .i64 N.lvl,.int .i64 gen] 150)).drew=w3 at *;have X:=N2.below b3 zn;have B3:=B2.trans (b3.mono B2.size);clear N2 B2 b3 n0 N1 b1;by_cases hl:N.lvl=0
   ·have R:=qoy addr gen hl E.out b5.out b0.out;have G:=Lib.hid R.1;have F:=Lib.hid R.2;clear R;have Hl:=Lib.hid hl;clear hl;have q0:=X.c0;have q1:=X.c1;have q2:=X.c2;go_wp2_with fail
    refine (Rh N.lvl true (decide_eq_true Hl.out) A n c B m d w3).mono ?_;rintro e u ⟨rfl,H⟩;have N4:=X.below H X.lt;have H4:=H3.below H I;have B4:=B3.trans (H.mono B3.size);have z4:f.1.size<u.1.size:=Nat.lt_of_lt_of_le I H.size;clear H X H3 B3 I q0 q1 q2;have nn:=N4.c1;have T:w.1.size<f.1.size:=zn;have Q:∀w':World,Below f.1.size u w'->w'.cell? ⟨w.1.size,1,none⟩=some (.slice A n c)/\Below f.1.size u w':=
     λw' Y=>⟨(Y.cell (p:=⟨w.1.size,_,none⟩) T).trans nn,Y⟩
    have U:Below f.1.size u u.drew:=(Below.refl _ u).drew;have a2:∀w':World,Below f.1.size u w'->Zl w' A n c N.items:=λw' Y=>hI.below (B4.trans (Y.mono (Nat.le_of_lt T)))
    have h2:=H4.at_ 3;have f2:=H4.fz 3;have BS:Below f.1.size u ((u.setCell ⟨f.1.size,2,none⟩ (.int .i64 (n:Int))).drew):=((Below.refl _ u).setCell (p:=⟨f.1.size,2,none⟩) (Nat.le_refl f.1.size) _).drew;have zS:u.1.size<=(u.setCell ⟨f.1.size,2,none⟩ (.int .i64 (n:Int))).drew.1.size:=by simp
    have zD:u.1.size<=u.drew.1.size:=Nat.le_refl _;simp only[Yp] at h2 f2;go_wp2_with fail
    go_region_held3 (λw'=>w'.cell? ⟨w.1.size,1,none⟩=some (.slice A n c)/\Below f.1.size u w')
     (first|assumption|exact Q _ U|exact Q _ BS|exact Q _ M|exact Q _ (M.setCell (p:=⟨f.1.size,2,none⟩) (Nat.le_refl f.1.size) _))
     (first
      |(go_at_call 191;refine (qow N.items A n c _ (a2 _ (by first|exact U|exact BS)) (by omega) (λj hj=>Hv.out j (by rw[b5.out];exact hj))).mono ?_;rintro e W ⟨A5,n5,c5,rfl,b7,s5,o5,D⟩;have M:Below f.1.size u W:=(by first|exact U.trans (D.mono (Nat.le_trans (Nat.le_of_lt z4) zD))|exact BS.trans (D.mono (Nat.le_trans (Nat.le_of_lt z4) zS)));have g5:=(show W.cell? ⟨f.1.size,2,none⟩=_ from D.cell (p:=⟨f.1.size,2,none⟩) (by first|exact Nat.lt_of_lt_of_le z4 zD|exact Nat.lt_of_lt_of_le z4 zS));have k5:=(show W.frozen? ⟨f.1.size,2,none⟩=_ from D.frozen (p:=⟨f.1.size,2,none⟩) (by first|exact Nat.lt_of_lt_of_le z4 zD|exact Nat.lt_of_lt_of_le z4 zS)))
      |fail)
    all_goals
     simp only[Hd.Ea] at h2;have H5:HB W f.1.size ⟨K,addr,0,N.lvl,gen⟩:=(show HB u.drew _ _ from H4).below D z4;have H6:=qfv (y:=(n:Int)) H5;have s6:=s5.turned (Ez (S:=λk=>k=f.1.size) (w:=W) (a:=⟨f.1.size,2,none⟩) (.int .i64 (n:Int)) rfl) (λk hk e=>by
      cases A5 with
      |none=>cases hk
      |some ad=>
       have e1:=o5 ad rfl;have e2:ad.block=k:=Option.some.inj hk;have e3:u.1.size<=ad.block:=e1;omega)
     have Z:=B4.trans ((M.setCell (p:=⟨f.1.size,2,none⟩) (Nat.le_refl f.1.size) (.int .i64 (n:Int))).mono (Nat.le_of_lt T));clear s5;generalize W.setCell ⟨f.1.size,2,none⟩ (.int .i64 (n:Int))=w6 at H6 s6 Z ⊢;clear Q U BS a2 h2 f2 g5 k5 D M nn zS zD N4 H4;go_wp2_with (first
      |(refine q5t rfl (.tmp 8) rfl f.1.size rfl _ H6 ?_)
      |fail)
     refine (q5u _ A5 n5 c5 _ _ s6 (ht.below Z ht.1)).mono ?_;rintro e w7 ⟨A7,n7,c7,rfl,O,b4,b2⟩;rw[<-F.out,<-G.out] at O;have s7:=O.less Z.size;have B7:=Z.trans (b2.mono Z.size);have hE:=Lib.hid (show Zk N addr gen=Xi (N.head addr gen) N.body by unfold Zk;rw[E.out];rfl);have a1:Xo (N.head addr gen) N.body=Jm N addr gen:=by unfold Jm;rw[E.out];rfl
     rw[a1] at s7;clear a1;go_wp2;go_ret2;rw[hE.out,G.out,F.out];exact⟨_,_,_,rfl,s7,b4,B7⟩
   ·have R:=qm8 addr gen hl E.out b6.out b0.out;have G:=Lib.hid R.1;have F:=Lib.hid R.2;clear R;have Hl:=Lib.hid hl;clear hl;have q0:=X.c0;have q1:=X.c1;have q2:=X.c2;go_wp2_with fail
    refine (Rh N.lvl false (decide_eq_false Hl.out) A n c B m d w3).mono ?_;rintro e u ⟨rfl,H⟩;have N4:=X.below H X.lt;have H4:=H3.below H I;have B4:=B3.trans (H.mono B3.size);have z4:f.1.size<u.1.size:=Nat.lt_of_lt_of_le I H.size;clear H X H3 B3 I q0 q1 q2;have nn:=N4.c2;have T:w.1.size<f.1.size:=zn;have Q:∀w':World,Below f.1.size u w'->w'.cell? ⟨w.1.size,2,none⟩=some (.slice B m d)/\Below f.1.size u w':=
     λw' Y=>⟨(Y.cell (p:=⟨w.1.size,_,none⟩) T).trans nn,Y⟩
    have U:Below f.1.size u u.drew:=(Below.refl _ u).drew;have a2:∀w':World,Below f.1.size u w'->Zm w' B m d N.kids:=λw' Y=>hK.below (B4.trans (Y.mono (Nat.le_of_lt T)))
    have h2:=H4.at_ 3;have f2:=H4.fz 3;have BS:Below f.1.size u ((u.setCell ⟨f.1.size,2,none⟩ (.int .i64 (m:Int))).drew):=((Below.refl _ u).setCell (p:=⟨f.1.size,2,none⟩) (Nat.le_refl f.1.size) _).drew;have zS:u.1.size<=(u.setCell ⟨f.1.size,2,none⟩ (.int .i64 (m:Int))).drew.1.size:=by simp
    have zD:u.1.size<=u.drew.1.size:=Nat.le_refl _;simp only[Yp] at h2 f2;go_wp2_with fail
    go_region_held3 (λw'=>w'.cell? ⟨w.1.size,2,none⟩=some (.slice B m d)/\Below f.1.size u w')
     (first|assumption|exact Q _ U|exact Q _ BS|exact Q _ M|exact Q _ (M.setCell (p:=⟨f.1.size,2,none⟩) (Nat.le_refl f.1.size) _))
     (first
      |(go_at_call 193;refine (qox N.kids B m d _ (a2 _ (by first|exact U|exact BS)) (by omega)).mono ?_;rintro e W ⟨A5,n5,c5,rfl,b7,s5,o5,D⟩;have M:Below f.1.size u W:=(by first|exact U.trans (D.mono (Nat.le_trans (Nat.le_of_lt z4) zD))|exact BS.trans (D.mono (Nat.le_trans (Nat.le_of_lt z4) zS)));have g5:=(show W.cell? ⟨f.1.size,2,none⟩=_ from D.cell (p:=⟨f.1.size,2,none⟩) (by first|exact Nat.lt_of_lt_of_le z4 zD|exact Nat.lt_of_lt_of_le z4 zS));have k5:=(show W.frozen? ⟨f.1.size,2,none⟩=_ from D.frozen (p:=⟨f.1.size,2,none⟩) (by first|exact Nat.lt_of_lt_of_le z4 zD|exact Nat.lt_of_lt_of_le z4 zS)))
      |fail)
    all_goals
     simp only[Hd.Ea] at h2;have H5:HB W f.1.size ⟨K,addr,0,N.lvl,gen⟩:=(show HB u.drew _ _ from H4).below D z4;have H6:=qfv (y:=(m:Int)) H5;have s6:=s5.turned (Ez (S:=λk=>k=f.1.size) (w:=W) (a:=⟨f.1.size,2,none⟩) (.int .i64 (m:Int)) rfl) (λk hk e=>by
      cases A5 with
      |none=>cases hk
      |some ad=>
       have e1:=o5 ad rfl;have e2:ad.block=k:=Option.some.inj hk;have e3:u.1.size<=ad.block:=e1;omega)
     have Z:=B4.trans ((M.setCell (p:=⟨f.1.size,2,none⟩) (Nat.le_refl f.1.size) (.int .i64 (m:Int))).mono (Nat.le_of_lt T));clear s5;generalize W.setCell ⟨f.1.size,2,none⟩ (.int .i64 (m:Int))=w6 at H6 s6 Z ⊢;clear Q U BS a2 h2 f2 g5 k5 D M nn zS zD N4 H4;go_wp2_with (first
      |(refine q5t rfl (.tmp 8) rfl f.1.size rfl _ H6 ?_)
      |fail)
     refine (q5u _ A5 n5 c5 _ _ s6 (ht.below Z ht.1)).mono ?_;rintro e w7 ⟨A7,n7,c7,rfl,O,b4,b2⟩;rw[<-F.out,<-G.out] at O;have s7:=O.less Z.size;have B7:=Z.trans (b2.mono Z.size);have hE:=Lib.hid (show Zk N addr gen=Xi (N.head addr gen) N.body by unfold Zk;rw[E.out];rfl);have a1:Xo (N.head addr gen) N.body=Jm N addr gen:=by unfold Jm;rw[E.out];rfl
     rw[a1] at s7;clear a1;go_wp2;go_ret2;rw[hE.out,G.out,F.out];exact⟨_,_,_,rfl,s7,b4,B7⟩
