/- The reference's May: whether a node may be -/
import Derived.Test.YthkfkhejjmhomaaGreatDoorDb6
import Derived.Test.YthkfkhejjmhomaaGreatDoorDb8
namespace Go.Proofs.YthkfkhejjmhomaaGreatDoor
open Go Go.RowKit Go.Proofs
set_option maxHeartbeats 4000000
set_option maxRecDepth 10000
def q65 (N:Nd):Bool:=N.items.all λx=>decide (x.v.length<=28)
def G7 (N:Nd):Bool:=N.kids.all λx=>decide (1<=x.a/\x.a<2048)
def Nd.may (N:Nd):Bool:=
 if N.lvl=0 then q65 N&&(rises N.keys&&decide (N.kids.length=0/\1<=N.items.length/\N.items.length<=6))
 else G7 N&&(rises N.keys&&decide (1<=N.lvl/\N.lvl<8/\N.items.length=0/\2<=N.kids.length/\N.kids.length<=12))
theorem qie {N:Nd}(h:∀j,j<N.items.length->(Zb N.items j).v.length<=28):q65 N=true:=by
 unfold q65;rw[List.all_eq_true];intro x m;obtain⟨j,d⟩:=List.mem_iff_getElem?.1 m;have f:=(List.getElem?_eq_some_iff.1 d).1;have:=Tf f;rw[d] at this;obtain rfl:=Option.some.inj this;exact decide_eq_true (h j f)
theorem qn6 {N:Nd}(h:∀j,j<N.kids.length->1<=(Qe N.kids j).a/\(Qe N.kids j).a<2048):G7 N=true:=by
 unfold G7;rw[List.all_eq_true];intro x m;obtain⟨j,d⟩:=List.mem_iff_getElem?.1 m;have f:=(List.getElem?_eq_some_iff.1 d).1;have:=q12 f;rw[d] at this;obtain rfl:=Option.some.inj this;exact decide_eq_true (h j f)
theorem q0u {m:Func}{p a b:Tmp}{ty:TypeId}{f:Addr}{v:Value}{P:Program}{w:World}{d:Array Value}(h:m.results=#[.cell p ty,.tmp a,.tmp b])(y:d.getD p undef=.pointer (some f))(u:(loadVar ty f).run P w=.ok v w) :
  (results m d).run P w=.ok (.tuple #[v,d.getD a undef,d.getD b undef]) w:=by
 have e:(results m d).run P w=((asAddr (d.getD p undef)).run P w).andThen λf A=>((loadVar ty f).run P A).andThen λv B=>.ok (.tuple #[v,d.getD a undef,d.getD b undef]) B:=by
  simp only[results,h];simp[Sem.run_bind,Result.andThen]
 rw[e,y];simp[asAddr,u]
theorem q81 {w:World}{b:Nat}{h:Hd}(d:w.rangeAt b 0 h.vs):(loadVar 198 ⟨b,0,none⟩).run Tryz.prog w=.ok h.v w:=
 run_loadVar_mid w b 0 198 h.vs _ d Tryz.underlying198 rfl (by kernel_rfl)
theorem q8m {w:World}{A:Option Addr}{n c:Nat}{l:List UInt8}(h:Sl w A n c l):(convert 48 9 (.slice A n c)).run Tryz.prog w=.ok (.string ⟨l.toArray⟩) w:=
 q98 _ _ _ Ig Tryz.underlying5 Tryz.underlying9 h
def okB (l:List UInt8):Bool:=decide (l.length=256/\l.take 4=Uw l/\(G5 ((l.drop 4).take 11)).ok=true/\Y7 ((l.drop 15).take 5)=true)
def Yk (l:List UInt8):Hd:=if okB l=true then G5 ((l.drop 4).take 11) else Hd.zero
def Un (l:List UInt8):List UInt8:=if okB l=true then l.drop 20 else []
def Lp (l:List UInt8):Int:=if okB l=true then 0 else 3
theorem q82 {f:Array Oper}{d:List Oper}{o:Oper}{a:Act}{w:World}{Q:Exit->Act->World->Prop}(u:o.guard=none)(x:Operand)(m:o.op=Op.load 198 x)
  (b:Nat) (y:a.eval x=.pointer (some ⟨b,0,none⟩)) (h:Hd) (H:w.rangeAt b 0 h.vs) (p:wpList Tryz.prog f Q d (a.put o.dst h.v) w):wpList Tryz.prog f Q (o::d) a w:=
 wpList_load_mid u _ x m b 0 y h.vs _ H Tryz.underlying198 rfl (by kernel_rfl) p
theorem q42 {w w':World}{b:Nat}{vs:List Value}(h:w.rangeAt b 0 vs){B:Nat}(f:Below B w w')(d:b<B):w'.rangeAt b 0 vs:=λj v m=>(f.cell (p:=⟨b,0+j,none⟩) d).trans (h j v m)
theorem qy8 (n:Nat):(zrs n).length=n:=List.length_replicate
theorem qn7 (L C:List UInt8)(h:L.length=C.length):splice L 0 C=C:=by
 unfold splice;rw[List.take_zero,List.nil_append,List.drop_of_length_le (by omega),List.append_nil]
theorem I9 {w d f:World}{H:Hd}{o:Obj}(y:f.rangeAt d.1.size 0 H.vs)(m:∀B,B<=d.1.size->Below B (d.alloc o) f)(p:HB d w.1.size Hd.zero)(u:Below w.1.size w d)(A:w.1.size<d.1.size) :
  f.rangeAt d.1.size 0 H.vs/\Below w.1.size w f/\HB f w.1.size Hd.zero/\d.1.size<f.1.size:=by
 have h1:Below d.1.size d f:=((Below.refl _ _).alloc (Nat.le_refl _) o).trans (m _ (Nat.le_refl _));have h2:=(m _ (Nat.le_refl _)).size;rw[World.size_alloc] at h2;exact⟨y,u.trans (h1.mono (by omega)),p.below h1 A,by omega⟩
theorem cuts {w:World}{d:Addr}{c:Nat}{l:List UInt8}(f:Sl w (some d) 256 c l):Sl w (some (d.add 15)) 5 (c-15) ((l.drop 15).take 5)/\Sl w (some (d.add 20)) 236 (c-20) (l.drop 20):=by
 have m:=f.cap;have h1:=(f.drop (k:=15) (by omega)).take (k:=5) (by omega);have h2:=f.drop (k:=20) (by omega);rw[if_neg (by omega)] at h1 h2;exact⟨h1,h2⟩
def q1y (A:Option Addr)(n c:Nat)(l:List UInt8)(w:World):Prop:=
  Calls Tryz.prog 139 #[.slice A n c] w λe p=>
   ∃d m f,e=.returned (.tuple #[(Yk l).v,.slice d m f,.int .i64 (Lp l)])/\Own p w.1.size 5 d m f (Un l)/\Below w.1.size w p
theorem qif {l:List UInt8}(h:okB l=false):Yk l=Hd.zero/\Un l=[]/\Lp l=3:=by
 unfold Yk Un Lp;rw[h];exact⟨rfl,rfl,rfl⟩
theorem q6x {l:List UInt8}(h:okB l=true):Yk l=G5 ((l.drop 4).take 11)/\Un l=l.drop 20/\Lp l=0:=by
 unfold Yk Un Lp;rw[h];exact⟨rfl,rfl,rfl⟩
theorem qy9 (ad:Addr)(c:Nat)(l:List UInt8)(w:World)(hs:Sl w (some ad) 256 c l)(ht:Tab w)(b7:l.take 4=Uw l):q1y (some ad) 256 c l w:=by
 unfold q1y;have a2:=hs.len;have d2:=hs.cap;have hm:=hs.max;unfold maxLen at hm;have HZ:=HB.zero w 198;have I:Below w.1.size w (w.alloc (.cells #[.int .i64 0,.int .i64 0,.int .i64 0,.int .i64 0,.int .i64 0] 198)):=Qk;have b9:w.1.size<(w.alloc (.cells #[.int .i64 0,.int .i64 0,.int .i64 0,.int .i64 0,.int .i64 0] 198)).1.size:=by simp
 obtain⟨H,hH⟩:∃H,G5 ((l.drop 4).take 11)=H:=⟨_,rfl⟩;have b2:=congrArg (λx:List UInt8=>(⟨x.toArray⟩:ByteArray)) b7;obtain⟨S1,hS⟩:∃S1,(⟨(Uw l).toArray⟩:ByteArray)=S1:=⟨_,rfl⟩;have b3:(⟨(l.take 4).toArray⟩:ByteArray)=S1:=b2.trans hS;clear b2;go_enter Tryz.func139,Tryz.ntmps139
 go_wp2;generalize (w.alloc (.cells #[.int .i64 0,.int .i64 0,.int .i64 0,.int .i64 0,.int .i64 0] 198))=w1 at HZ I b9 ⊢;have R:=hs.below I;have d1:=ht.below I ht.1;have k1:=q8m (R.take (k:=4) (by omega)).drew;rw[b3] at k1;go_region_with (first
  |(go_at_call 200;refine (q7z _ 256 c l _ R.drew (by omega) d1).mono ?_;rintro e w3 ⟨A3,n3,c3,rfl,a6,b5⟩;have A:Below w1.1.size w1 w3:=Below.trans (Below.refl _ w1).drew b5;have k2:=q8m ((R.below A).take (k:=4) (by omega));have k3:=q8m a6.sl;rw[b3] at k2;rw[hS] at k3)
  |fail)
 all_goals
  have a7:=HZ.below A b9;have d5:=A.size;have c9:=R.below A;have D:=I.trans (A.mono I.size);have Z:=(c9.drop (k:=4) (by omega)).take (k:=11) (by omega);rw[if_neg (show ¬c=4 by omega)] at Z;clear k1 k2 k3 a6 b5 R HZ
  cases M:H.ok
  ·have a8:okB l=false:=decide_eq_false (λh=>by have:=h.2.2.1;rw[hH,M] at this;cases this);go_wp2_with (first
    |(go_at_call 210;refine (q4m _ (c-4) _ _ Z).mono ?_;rw[hH];rintro e Y ⟨rfl,m⟩;have E:=a7.below m (by omega);have c6:=m.size)
    |(refine Ph rfl (.tmp 5) (.tmp 22) rfl Y.1.size rfl H _ rfl (HB.zero Y _) (by simp) ?_;intro w6 O J _;obtain⟨f,y,F,W⟩:=I9 O J E (D.trans (m.mono D.size)) (by omega))
    |(refine q82 rfl (.tmp 5) rfl Y.1.size rfl H (by first|exact f|assumption) ?_)
    |(go_at_call 198;refine (q3j H _).mono ?_;rw[M];rintro e w7 ⟨rfl,d⟩;have G:=F.below d (by omega);have p:=y.trans (d.mono y.size);have b0:=q42 f d W;have c7:=d.size;have U:=hs.below p;obtain⟨B,T⟩:=cuts U)
    |(refine Ph rfl (.tmp 2) (.tmp 32) rfl w.1.size rfl Hd.zero _ rfl G (by omega) ?_;intro wz Q K Tz)
    |fail)
   refine bodyPost_ret (q0u Tryz.results139 rfl (q81 Q)) rfl ?_;obtain⟨h1,h2,h3⟩:=qif (l:=l) a8;rw[h1,h2,h3];exact⟨_,_,_,rfl,q4n _ _ _,p.trans (K _ (Nat.le_refl _))⟩
  ·cases a1:Y7 ((l.drop 15).take 5)
   ·have a8:okB l=false:=decide_eq_false (λh=>by have:=h.2.2.2;rw[a1] at this;cases this);go_wp2_with (first
     |(go_at_call 210;refine (q4m _ (c-4) _ _ Z).mono ?_;rw[hH];rintro e Y ⟨rfl,m⟩;have E:=a7.below m (by omega);have c6:=m.size)
     |(refine Ph rfl (.tmp 5) (.tmp 22) rfl Y.1.size rfl H _ rfl (HB.zero Y _) (by simp) ?_;intro w6 O J _;obtain⟨f,y,F,W⟩:=I9 O J E (D.trans (m.mono D.size)) (by omega))
     |(refine q82 rfl (.tmp 5) rfl Y.1.size rfl H (by first|exact f|assumption) ?_)
     |(go_at_call 198;refine (q3j H _).mono ?_;rw[M];rintro e w7 ⟨rfl,d⟩;have G:=F.below d (by omega);have p:=y.trans (d.mono y.size);have b0:=q42 f d W;have c7:=d.size;have U:=hs.below p;obtain⟨B,T⟩:=cuts U)
     |(go_at_call 211;refine (qaz _ 5 (c-15) _ w7 B).mono ?_;rw[a1];rintro e w8 ⟨rfl,rfl⟩)
     |(refine Ph rfl (.tmp 2) (.tmp 32) rfl w.1.size rfl Hd.zero _ rfl G (by omega) ?_;intro wz Q K Tz)
     |fail)
    refine bodyPost_ret (q0u Tryz.results139 rfl (q81 Q)) rfl ?_;obtain⟨h1,h2,h3⟩:=qif (l:=l) a8;rw[h1,h2,h3];exact⟨_,_,_,rfl,q4n _ _ _,p.trans (K _ (Nat.le_refl _))⟩
   ·have b8:okB l=true:=decide_eq_true ⟨a2,b7,by rw[hH];exact M,a1⟩;go_wp2_with (first
     |(go_at_call 210;refine (q4m _ (c-4) _ _ Z).mono ?_;rw[hH];rintro e Y ⟨rfl,m⟩;have E:=a7.below m (by omega);have c6:=m.size)
     |(refine Ph rfl (.tmp 5) (.tmp 22) rfl Y.1.size rfl H _ rfl (HB.zero Y _) (by simp) ?_;intro w6 O J _;obtain⟨f,y,F,W⟩:=I9 O J E (D.trans (m.mono D.size)) (by omega))
     |(refine q82 rfl (.tmp 5) rfl Y.1.size rfl H (by first|exact f|assumption) ?_)
     |(go_at_call 198;refine (q3j H _).mono ?_;rw[M];rintro e w7 ⟨rfl,d⟩;have G:=F.below d (by omega);have p:=y.trans (d.mono y.size);have b0:=q42 f d W;have c7:=d.size;have U:=hs.below p;obtain⟨B,T⟩:=cuts U)
     |(go_at_call 211;refine (qaz _ 5 (c-15) _ w7 B).mono ?_;rw[a1];rintro e w8 ⟨rfl,rfl⟩)
     |(at_make;refine q6u _ Ig rfl _ _ rfl _ _ 236 rfl rfl (by omega) ?_;intro w9 c8 b6;have d0:=Sl.below T b6)
     |((with_reducible show wpList _ _ _ _ _ _);refine qay Ig rfl (.tmp 34) (.tmp 36) rfl w7.1.size w7.1.size 236 _ c8 0 236 236 rfl _ 236 (c-20) _ rfl d0 (by omega) (by omega) ?_;intro d6 X b4;have u:=b6.trans b4;have b1:=G.below u (by omega);have d3:=q42 b0 u (by omega);have d4:=u.size)
     |(refine Ph rfl (.tmp 2) (.tmp 38) rfl w.1.size rfl H _ rfl b1 (by omega) ?_;intro wz Q K Tz)
     |fail)
    refine bodyPost_ret (q0u Tryz.results139 rfl (q81 Q)) rfl ?_;obtain⟨h1,h2,h3⟩:=q6x (l:=l) b8;rw[h1,h2,h3,hH];rw[qn7 _ _ (by rw[qy8,List.length_drop,a2])] at X;exact⟨_,_,_,rfl,(X.turn λg hg hl=>Tz.block g hl (by show ¬g=w.1.size;omega)).less p.size,p.trans ((u.mono p.size).trans (K _ (Nat.le_refl _)))⟩
theorem qya (Q:Addr)(c:Nat)(l:List UInt8)(w:World)(F:Sl w (some Q) 256 c l)(U:Tab w)(p:¬l.take 4=Uw l):q1y (some Q) 256 c l w:=by
 unfold q1y;have T:=F.len;have R:=F.cap;have hm:=F.max;unfold maxLen at hm;have O:=HB.zero w 198;have f:Below w.1.size w (w.alloc (.cells #[.int .i64 0,.int .i64 0,.int .i64 0,.int .i64 0,.int .i64 0] 198)):=Qk;have D:w.1.size<(w.alloc (.cells #[.int .i64 0,.int .i64 0,.int .i64 0,.int .i64 0,.int .i64 0] 198)).1.size:=by simp
 have u:okB l=false:=decide_eq_false (λh=>p h.2.1);have h1:Yk l=Hd.zero:=by unfold Yk;rw[if_neg (by rw[u];simp)]
 have h2:Un l=[]:=by unfold Un;rw[if_neg (by rw[u];simp)]
 have X:Lp l=3:=by unfold Lp;rw[if_neg (by rw[u];simp)]
 rw[h1,h2,X];have m:¬((⟨(l.take 4).toArray⟩:ByteArray)=⟨(Uw l).toArray⟩):=λh=>p (by injection h with h;simpa using h)
 have B:((⟨(l.take 4).toArray⟩:ByteArray).toList==(⟨(Uw l).toArray⟩:ByteArray).toList)=false:=by rw[ByteArray.toList_eq,ByteArray.toList_eq];simpa using p
 generalize Y:(⟨(Uw l).toArray⟩:ByteArray)=S1 at m B;generalize A:(⟨(l.take 4).toArray⟩:ByteArray)=S2 at m B;go_enter Tryz.func139,Tryz.ntmps139
 go_wp2;generalize (w.alloc (.cells #[.int .i64 0,.int .i64 0,.int .i64 0,.int .i64 0,.int .i64 0] 198))=M at O f D ⊢;have y:=F.below f;have K:=U.below f U.1;have k1:=q8m (y.take (k:=4) (by omega)).drew;rw[A] at k1;go_region_with (first
  |(go_at_call 200;refine (q7z _ 256 c l _ y.drew (by omega) K).mono ?_;rintro e W ⟨A3,n3,c3,rfl,E,H⟩;have d:Below M.1.size M W:=Below.trans (Below.refl _ M).drew H;have k2:=q8m ((y.below d).take (k:=4) (by omega));have k3:=q8m E.sl;rw[A] at k2;rw[Y] at k3)
  |fail)
 all_goals
  have G:=O.below d D;have Z:=d.size;go_wp2_with (first
   |(refine Ph rfl (.tmp 2) (.tmp 19) rfl w.1.size rfl Hd.zero _ rfl (by exact G) (by show w.1.size<W.1.size;omega) ?_;intro w4 J I _)
   |fail)
  refine bodyPost_ret (q0u Tryz.results139 rfl (q81 J)) rfl ?_;exact⟨_,_,_,rfl,q4n _ _ _,f.trans ((d.mono (by omega)).trans (I _ (Nat.le_refl _)))⟩
theorem q6y (A:Option Addr)(n c:Nat)(l:List UInt8)(w:World)(u:Sl w A n c l)(H:Tab w):q1y A n c l w:=by
 have G:=u.len;by_cases hn:n=256
 ·subst hn;obtain⟨F,rfl,_⟩:=u.cell (k:=0) (by omega);by_cases m:l.take 4=Uw l
  ·exact qy9 F c l w u H m
  ·exact qya F c l w u H m
 ·unfold q1y;have d:okB l=false:=decide_eq_false (λh=>hn (by omega));have h1:Yk l=Hd.zero:=by unfold Yk;rw[if_neg (by rw[d];simp)]
  have h2:Un l=[]:=by unfold Un;rw[if_neg (by rw[d];simp)]
  have I:Lp l=3:=by unfold Lp;rw[if_neg (by rw[d];simp)]
  rw[h1,h2,I];have B:¬(n:Int)=256:=by omega
  have J:decide ((n:Int)=256)=false:=decide_eq_false B;have E:=HB.zero w 198;have f:Below w.1.size w (w.alloc (.cells #[.int .i64 0,.int .i64 0,.int .i64 0,.int .i64 0,.int .i64 0] 198)):=Qk;have p:w.1.size<(w.alloc (.cells #[.int .i64 0,.int .i64 0,.int .i64 0,.int .i64 0,.int .i64 0] 198)).1.size:=by simp
  go_enter Tryz.func139,Tryz.ntmps139
  go_wp2;generalize (w.alloc (.cells #[.int .i64 0,.int .i64 0,.int .i64 0,.int .i64 0,.int .i64 0] 198))=K at E f p ⊢;go_quiet (fail)
  go_wp2_with (first
   |(refine Ph rfl (.tmp 2) (.tmp 19) rfl w.1.size rfl Hd.zero _ rfl (by exact E) (by exact p) ?_;intro M D y _)
   |fail)
  refine bodyPost_ret (q0u Tryz.results139 rfl (q81 D)) rfl ?_;exact⟨_,_,_,rfl,q4n _ _ _,(q0y f _).trans (y _ (Nat.le_refl _))⟩
theorem qzg (l:List UInt8)(x n:Int)(h1:1<=n)(h2:n<=8):Aa l x n=l++Qy x n.toNat:=if_pos ⟨h1,h2⟩
section
variable {P:Program}{t e:TypeId}(w:World)
end
def q16 (x:Qb):List UInt8:=x.k.bytes++(Qy (x.v.length:Int) 1++x.v)
def Ew (x:Qj):List UInt8:=x.k.bytes++Qy x.a 2
def Nd.body (N:Nd):List UInt8:=N.items.flatMap q16++N.kids.flatMap Ew
def Nd.head (N:Nd)(addr gen:Int):Hd:=⟨if 0<N.lvl then 4 else 3,addr,(N.items.length:Int)+(N.kids.length:Int),N.lvl,gen⟩
def Jp (N:Nd)(addr gen:Int):List UInt8:=if N.may=true then Xy (N.head addr gen) N.body else []
def Zg (N:Nd)(addr gen:Int):Int:=if N.may=true then Xn (N.head addr gen) N.body else 1
theorem q2s {N:Nd}(h:N.may=true):N.items.length<=6/\N.kids.length<=12/\(∀j,j<N.items.length->(Zb N.items j).v.length<=28)/\0<=N.lvl:=by
 unfold Nd.may at h;split at h
 ·rename_i f;rw[Bool.and_eq_true,Bool.and_eq_true] at h;obtain⟨h1,_,h2⟩:=h;have h2:=of_decide_eq_true h2;refine⟨h2.2.2,by omega,λj d=>?_,by omega⟩;unfold q65 at h1;exact of_decide_eq_true (List.all_eq_true.1 h1 _ (List.mem_of_getElem? (Tf d)))
 ·rw[Bool.and_eq_true,Bool.and_eq_true] at h;obtain⟨_,_,h2⟩:=h;have h2:=of_decide_eq_true h2;exact⟨by omega,h2.2.2.2.2,λj d=>by omega,by omega⟩
theorem qn8 (l:List UInt8)(a:Nat):l.foldl (λa b=>256*a+b.toNat) a=a*256 ^ l.length+Qw l:=by
 induction l generalizing a with
 |nil=>simp[Qw]
 |cons b l ih=>
  unfold Qw;rw[List.foldl_cons,List.foldl_cons,ih,ih (256*0+b.toNat),List.length_cons,Nat.pow_succ,Nat.add_mul,Nat.add_mul];have e:256*a*256 ^ l.length=a*(256 ^ l.length*256):=by rw[Nat.mul_comm 256 a,Nat.mul_assoc,Nat.mul_comm 256]
  omega
theorem q83 (b:UInt8)(l:List UInt8):Qw (b::l)=b.toNat*256 ^ l.length+Qw l:=by
 have h:=qn8 l (256*0+b.toNat);have e:(256*0+b.toNat)*256 ^ l.length=b.toNat*256 ^ l.length:=by rw[Nat.mul_zero,Nat.zero_add]
 rw[e] at h;exact h
theorem qvf (u k:Nat):(low (u:Int) k).toNat=u / 256 ^ k % 256:=by
 unfold low;have e:((u:Int) / 2 ^ (8*k) % 256)=((u / 256 ^ k % 256:Nat):Int):=by
  rw[show (256:Nat) ^ k=2 ^ (8*k) by rw[Nat.pow_mul],Int.natCast_emod,Int.natCast_ediv,Int.natCast_pow];rfl
 rw[e,Int.toNat_natCast,UInt8.toNat_ofNat'];omega
theorem qb5 (u k:Nat):Qw (Qy (u:Int) k)=u % 256 ^ k:=by
 induction k with
 |zero=>simp[Qy,Qw,Nat.mod_one]
 |succ k ih=>
  rw[Qy,q83,Xf,ih,qvf,Nat.mod_pow_succ,Nat.mul_comm];omega
theorem qkx:∀{a b:List UInt8},a.length=b.length->Qw a=Qw b->a=b
 |[],[],_,_=>rfl
 |[],_::_,h,_=>by simp at h
 |_::_,[],h,_=>by simp at h
 |x::a,y::b,h,e=>by
  have d:a.length=b.length:=by simpa using h
  rw[q83,q83,d] at e;have h1:=q77 a;have h2:=q77 b;rw[d] at h1;have m:0<256 ^ b.length:=Nat.pow_pos (by omega);have p:(x.toNat*256 ^ b.length+Qw a) / 256 ^ b.length=x.toNat:=by rw[Nat.mul_comm,Nat.mul_add_div m,Nat.div_eq_of_lt h1];omega
  have u:(y.toNat*256 ^ b.length+Qw b) / 256 ^ b.length=y.toNat:=by rw[Nat.mul_comm,Nat.mul_add_div m,Nat.div_eq_of_lt h2];omega
  have f:x.toNat=y.toNat:=by rw[<-p,<-u,e]
  have B:=UInt8.toNat_inj.1 f;subst B;have A:Qw a=Qw b:=by omega
  rw[qkx d A]
def gN (l:List UInt8)(p m:Nat):Nat:=Qw ((l.drop p).take m)
def Ql (its:List Qb):Prop:=its.Pairwise λx y=>x.k.less y.k=true
def Qm (R:Int->Nd × Int):Nat->Int->List Qb->Prop
 |0,a,its=>R a=(⟨0,its,[]⟩,0)/\its≠[]
 |l+1,a,its=>∃(kids:List Qj) (parts:List (List Qb)),R a=(⟨((l+1:Nat):Int),[],kids⟩,0)/\kids≠[]/\parts.length=kids.length/\its=parts.flatten/\∀j,j<kids.length->Qm R l (Qe kids j).a (parts.getD j [])/\∃x r,parts.getD j []=x::r/\(Qe kids j).k=x.k
def valOf (its:List Qb)(k:Kd):Option (List UInt8):=(its.find? λx=>x.k.same k).map (·.v)
theorem q6z {a b k:Kd}(h:b.same k=true):a.less k=a.less b:=by
 rw[Kd.same_iff] at h;obtain⟨h1,h2,d⟩:=h;unfold Kd.less;rw[h1,h2,d]
theorem q4p {a b k:Kd}(h:b.same k=true):k.less a=b.less a:=by
 rw[Kd.same_iff] at h;obtain⟨h1,h2,d⟩:=h;unfold Kd.less;rw[h1,h2,d]
theorem qb6 {a b:Kd}(h:a.less b=true):b.less a=false:=by
 rcases Kd.total a b with⟨_,h2,_⟩|⟨h1,_,_⟩|⟨h1,_,_⟩
 ·exact h2
 ·rw[h] at h1;cases h1
 ·rw[h] at h1;cases h1
theorem q43 (a:Kd):a.less a=false:=by
 rcases Kd.total a a with⟨h1,h2,d⟩|⟨_,_,d⟩|⟨h1,_,_⟩
 ·exact absurd rfl d
 ·exact absurd rfl d
 ·exact h1
theorem qcv {a b c:Kd}(h1:a.less b=true)(h2:c.less b=false):a.less c=true:=by
 rcases Kd.total b c with⟨d,_,_⟩|⟨_,d,_⟩|⟨_,_,rfl⟩
 ·exact Kd.trans a b c h1 d
 ·rw[h2] at d;cases d
 ·exact h1
theorem getD_cons_zero {α:Type}(x:α)(l:List α)(d:α):(x::l).getD 0 d=x:=rfl
theorem getD_cons_succ {α:Type}(x:α)(l:List α)(d:α)(j:Nat):(x::l).getD (j+1) d=l.getD j d:=by
 rw[List.getD_eq_getElem?_getD,List.getD_eq_getElem?_getD,List.getElem?_cons_succ]
theorem q8n {α:Type}(p:α->Bool):∀(parts:List (List α)) (j:Nat),j<parts.length->(∀q,q<parts.length->q≠j->∀x∈parts.getD q [],p x=false)->parts.flatten.find? p=(parts.getD j []).find? p
 |[],j,hj,_=>absurd hj (Nat.not_lt_zero _)
 |x::parts,0,_,h=>by
  rw[List.flatten_cons,List.find?_append,getD_cons_zero];have h0:parts.flatten.find? p=none:=by
   rw[List.find?_eq_none];intro y d;obtain⟨l,u,f⟩:=List.mem_flatten.1 d;obtain⟨q,m,e⟩:=List.getElem_of_mem u;have:=h (q+1) (by rw[List.length_cons];omega) (by omega) y (by rw[getD_cons_succ,List.getD_eq_getElem?_getD,List.getElem?_eq_getElem m,e];exact f);simpa using this
  rw[h0,Option.or_none]
 |x::parts,j+1,hj,h=>by
  rw[List.flatten_cons,List.find?_append,getD_cons_succ];have h0:x.find? p=none:=by
   rw[List.find?_eq_none];intro y d;have:=h 0 (by rw[List.length_cons];omega) (by omega) y d;simpa using this
  rw[h0,Option.none_or];refine q8n p parts j (by simpa using hj) λq m A y d=>?_
  exact h (q+1) (by rw[List.length_cons];omega) (by omega) y (by rw[getD_cons_succ];exact d)
theorem q5f {parts:List (List Qb)}(h:Ql parts.flatten){i j:Nat}(d:i<j)(f:j<parts.length){x y:Qb}(m:x∈parts.getD i [])(p:y∈parts.getD j []):x.k.less y.k=true:=by
 unfold Ql at h;rw[List.pairwise_flatten] at h;have h2:=List.pairwise_iff_getElem.1 h.2 i j (by omega) f d;rw[List.getD_eq_getElem?_getD,List.getElem?_eq_getElem (by omega)] at m;rw[List.getD_eq_getElem?_getD,List.getElem?_eq_getElem f] at p;exact h2 x m y p
theorem q5g {parts:List (List Qb)}(h:Ql parts.flatten)(j:Nat):Ql (parts.getD j []):=by
 unfold Ql at h ⊢;rw[List.pairwise_flatten] at h;rw[List.getD_eq_getElem?_getD];by_cases d:j<parts.length
 ·rw[List.getElem?_eq_getElem d];exact h.1 _ (List.getElem_mem d)
 ·rw[List.getElem?_eq_none (by omega)];exact List.Pairwise.nil
theorem q4q (l:Int)(kids:List Qj):(⟨l,[],kids⟩:Nd).keys=kids.map (·.k):=rfl
theorem q1m (its:List Qb):(⟨0,its,[]⟩:Nd).keys=its.map (·.k):=by unfold Nd.keys;simp
theorem q4r (kids:List Qj){j:Nat}(d:j<kids.length):keyAt (kids.map (·.k)) j=(Qe kids j).k:=by
 unfold keyAt Qe;rw[List.getD_eq_getElem?_getD,List.getD_eq_getElem?_getD,List.getElem?_map,List.getElem?_eq_getElem d];rfl
theorem q17 (its:List Qb){j:Nat}(d:j<its.length):keyAt (its.map (·.k)) j=(Zb its j).k:=by
 unfold keyAt Zb;rw[List.getD_eq_getElem?_getD,List.getD_eq_getElem?_getD,List.getElem?_map,List.getElem?_eq_getElem d];rfl
theorem qvg {R:Int->Nd × Int}{l:Nat}{a:Int}{its:List Qb}(h:Qm R (l+1) a its)(F:Ql its)(k:Kd) :
  ∃(kids:List Qj) (part:List Qb),R a=(⟨((l+1:Nat):Int),[],kids⟩,0)/\(⟨((l+1:Nat):Int),[],kids⟩:Nd).Zc k<kids.length/\Qm R l (Qe kids ((⟨((l+1:Nat):Int),[],kids⟩:Nd).Zc k)).a part/\Ql part/\valOf its k=valOf part k:=by
 obtain⟨kids,parts,h1,h2,U,rfl,p⟩:=h;have I:(⟨((l+1:Nat):Int),[],kids⟩:Nd).Zc k=lastTo (kids.map (·.k)) k kids.length:=by
  unfold Nd.Zc;have:¬((l+1:Nat):Int)=0:=by omega
  dsimp only;rw[if_neg this,q4q,List.length_map]
 obtain⟨j,B⟩:∃j,lastTo (kids.map (·.k)) k kids.length=j:=⟨_,rfl⟩;have W:0<kids.length:=List.length_pos_iff.2 h2;have d:j<kids.length:=by
  rcases q6w (kids.map (·.k)) k kids.length with e|e<;>omega
 refine⟨kids,parts.getD j [],h1,by rw[I,B];exact d,by rw[I,B];exact (p j d).1,q5g F j,?_⟩;unfold valOf;rw[q8n _ parts j (by omega) λq X E x f=>?_];obtain⟨_,y,r,G,J⟩:=p q (by omega);rcases Nat.lt_or_gt_of_ne E with D|T
 ·-- ahead of the kid's key,that is not behind k
  obtain⟨_,z,s,K,M⟩:=p j d;have O:x.k.less z.k=true:=q5f F D (by omega) f (by rw[K];exact List.mem_cons_self ..);have u:k.less z.k=false:=by
   have:=q5e (kids.map (·.k)) k kids.length (by omega);rw[B,q4r kids d,M] at this;exact this
  cases A:x.k.same k with
  |false=>rfl
  |true=>
   have:=q4p (a:=z.k) A;rw[u,O] at this
   cases this
 ·have u:k.less y.k=true:=by
   have:=q4o (kids.map (·.k)) k kids.length q (by omega) (by omega);rw[q4r kids (by omega),J] at this;exact this
  cases A:x.k.same k with
  |false=>rfl
  |true=>
   have m:x.k.less y.k=true:=by rw[<-q4p A];exact u
   rw[G] at f;rcases List.mem_cons.1 f with rfl|f
   ·rw[q43] at m;cases m
   ·have H:=q5g F q;rw[G] at H;have Q:=(List.pairwise_cons.1 H).1 x f;rw[qb6 Q] at m;cases m
theorem qky {its:List Qb}(H:Ql its)(k:Kd):valOf its k=if Vd (its.map (·.k)) k (lead (its.map (·.k)) k)=true then some (Zb its (lead (its.map (·.k)) k)).v else none:=by
 obtain⟨j,y⟩:∃j,lead (its.map (·.k)) k=j:=⟨_,rfl⟩;have G:j<=its.length:=by have:=qb2 (its.map (·.k)) k;rw[List.length_map] at this;omega
 rw[y];have F:∀q,q<j->(Zb its q).k.less k=true:=λq m=>by
  have:=q64 (its.map (·.k)) k q (by omega);rwa [q17 its (by omega)] at this
 have d:∀q (m:q<its.length),q≠j\/(Zb its j).k.same k=false->(its[q]).k.same k=false:=λq m A=>by
  have e:Zb its q=its[q]:=by unfold Zb;rw[List.getD_eq_getElem?_getD,List.getElem?_eq_getElem m];rfl
  cases p:(its[q]).k.same k with
  |false=>rfl
  |true=>
   rcases Nat.lt_trichotomy q j with h1|h1|h1
   ·have h2:=F q h1;rw[e,q6z p,q43] at h2
    cases h2
   ·subst h1;rcases A with h2|h2
    ·exact absurd rfl h2
    ·rw[e,p] at h2;cases h2
   ·have D:(Zb its j).k.less k=false:=by
     have:=qb3 (its.map (·.k)) k (by rw[y,List.length_map];omega);rwa [y,q17 its (by omega)] at this
    have E:=List.pairwise_iff_getElem.1 H j q (by omega) m h1;have u:Zb its j=its[j]'(by omega):=by unfold Zb;rw[List.getD_eq_getElem?_getD,List.getElem?_eq_getElem (by omega)];rfl
    rw[u,q6z p,E] at D
    cases D
 unfold valOf Vd;rw[List.length_map];by_cases f:j<its.length
 ·rw[decide_eq_true f,Bool.true_and,q17 its f];have u:Zb its j=its[j]:=by unfold Zb;rw[List.getD_eq_getElem?_getD,List.getElem?_eq_getElem f];rfl
  cases p:(Zb its j).k.same k with
  |true=>
   rw[if_pos rfl];have:its.find? (λx=>x.k.same k)=some its[j]:=by
    rw[List.find?_eq_some_iff_getElem];refine⟨by rw[<-u];exact p,j,f,rfl,λq m=>?_⟩;rw[d q (by omega) (.inl (by omega))];rfl
   rw[this,u];rfl
  |false=>
   have:its.find? (λx=>x.k.same k)=none:=by
    rw[List.find?_eq_none];intro x B;obtain⟨q,m,e⟩:=List.getElem_of_mem B;rw[<-e,d q m (.inr p)];simp
   rw[this];rfl
 ·rw[decide_eq_false f,Bool.false_and];have:its.find? (λx=>x.k.same k)=none:=by
   rw[List.find?_eq_none];intro x B;obtain⟨q,m,e⟩:=List.getElem_of_mem B;rw[<-e,d q m (.inl (by omega))];simp
  rw[this];rfl
def Ap (R:Int->Nd × Int)(k:Kd):Nat->Int->List UInt8 × Int
 |0,a=>if (R a).2≠0 then ([],(R a).2) else if (R a).1.lvl≠0 then ([],5) else if Vd (R a).1.keys k ((R a).1.Zc k)=true then ((Zb (R a).1.items ((R a).1.Zc k)).v,0) else ([],10)
 |l+1,a=>if (R a).2≠0 then ([],(R a).2) else if (R a).1.lvl≠((l+1:Nat):Int) then ([],5) else Ap R k l (Qe (R a).1.kids ((R a).1.Zc k)).a
def Ro (o:Option (List UInt8)):List UInt8 × Int:=match o with|some v=>(v,0)|none=>([],10)
theorem q70 {R:Int->Nd × Int}:∀{l:Nat} {a:Int} {its:List Qb},Qm R l a its->∃x r,its=x::r
 |0,a,its,h=>by
  match its,h.2 with
  |x::r,_=>exact⟨x,r,rfl⟩
 |l+1,a,its,h=>by
  obtain⟨kids,parts,_,h2,d,rfl,m⟩:=h;have f:0<kids.length:=List.length_pos_iff.2 h2;obtain⟨_,x,r,e,_⟩:=m 0 f;match parts,d with
  |[],d=>rw[<-d] at f;cases f
  |p::ps,_=>
   have e:p=x::r:=e;exact⟨x,r++ps.flatten,by rw[List.flatten_cons,e];rfl⟩
theorem qgk {R:Int->Nd × Int}(k:Kd):∀(l:Nat) (a:Int) (its:List Qb),Qm R l a its->Ql its->Ap R k l a=Ro (valOf its k)
 |0,a,its,h,hr=>by
  obtain⟨h1,_⟩:=h;have p:(⟨0,its,[]⟩:Nd).Zc k=lead (its.map (·.k)) k:=by
   unfold Nd.Zc;rw[if_pos rfl,q1m]
  unfold Ap;rw[h1];dsimp only;rw[if_neg (by simp),if_neg (by simp),p,q1m,qky hr];split<;>rfl
 |l+1,a,its,h,hr=>by
  obtain⟨kids,part,h1,_,d,f,m⟩:=qvg h hr k;unfold Ap;rw[h1];dsimp only;rw[if_neg (by simp),if_neg (by simp),qgk k l _ part d f,m]
def within (fr «to»:Kd)(its:List Qb):List Qb:=its.filter λx=>!x.k.less fr&&!«to».less x.k
def Xx (f:Int->List Qb->List Qb × Int)(«to»:Kd)(most:Nat):List Qj->List Qb->List Qb × Int
 |[],acc=>(acc,0)
 |x::r,acc=>if «to».less x.k=true\/most<=acc.length then (acc,0) else if (f x.a acc).2≠0 then ([],(f x.a acc).2) else Xx f «to» most r (f x.a acc).1
def Jl (R:Int->Nd × Int)(fr «to»:Kd)(most:Nat):Nat->Int->List Qb->List Qb × Int
 |0,a,acc=>if (R a).2≠0 then ([],(R a).2) else if (R a).1.lvl≠0 then ([],5) else ((acc++within fr «to» (R a).1.items).take most,0)
 |l+1,a,acc=>if (R a).2≠0 then ([],(R a).2) else if (R a).1.lvl≠((l+1:Nat):Int) then ([],5) else Xx (Jl R fr «to» most l) «to» most ((R a).1.kids.drop ((R a).1.Zc fr)) acc
theorem q44 {fr «to»:Kd}{its:List Qb}(h:∀x∈its,x.k.less fr=true\/«to».less x.k=true):within fr «to» its=[]:=by
 unfold within;rw[List.filter_eq_nil_iff];intro x d;rcases h x d with e|e<;>simp[e]
theorem q45 {α:Type}{a b:List α}{m:Nat}(h:m<=a.length):(a++b).take m=a.take m:=by
 rw[List.take_append,Nat.sub_eq_zero_of_le h,List.take_zero,List.append_nil]
theorem q8p {α:Type}(a b:List α)(m:Nat):(a.take m++b).take m=(a++b).take m:=by
 by_cases h:m<=a.length
 ·rw[q45 h,q45 (by rw[List.length_take];omega),List.take_take,Nat.min_self]
 ·rw[List.take_of_length_le (l:=a) (by omega)]
theorem qgl {f:Int->List Qb->List Qb × Int}{fr «to»:Kd}{most:Nat}:∀(kids:List Qj) (parts:List (List Qb)) (d:List Qb),parts.length=kids.length->d.length<=most->Ql parts.flatten->
  (∀j,j<kids.length->(∀d:List Qb,d.length<=most->f (Qe kids j).a d=((d++within fr «to» (parts.getD j [])).take most,0))/\∃x r,parts.getD j []=x::r/\(Qe kids j).k=x.k)->
  Xx f «to» most kids d=((d++within fr «to» parts.flatten).take most,0)
 |[],parts,d,hl,ha,_,_=>by
  obtain rfl:parts=[]:=List.length_eq_zero_iff.1 hl;unfold Xx;rw[List.flatten_nil,show within fr «to» []=[] from rfl,List.append_nil,List.take_of_length_le ha]
 |x::kids,[],d,hl,_,_,_=>by simp at hl
 |x::kids,p::parts,d,hl,ha,hr,h=>by
  obtain⟨h0,y,r,B,D⟩:=h 0 (by rw[List.length_cons];omega);have B:p=y::r:=B;have D:x.k=y.k:=D;have h0:∀d:List Qb,d.length<=most->f x.a d=((d++within fr «to» p).take most,0):=h0;unfold Xx;by_cases u:«to».less x.k=true
  ·rw[if_pos (.inl u)];have:within fr «to» (p::parts).flatten=[]:=q44 λz A=>.inr (by
    have m:z=y\/y.k.less z.k=true:=by
     rw[List.flatten_cons,B,List.cons_append] at A hr;rcases List.mem_cons.1 A with rfl|A
     ·exact .inl rfl
     ·exact .inr ((List.pairwise_cons.1 hr).1 z A)
    rw[D] at u;rcases m with rfl|m
    ·exact u
    ·exact Kd.trans _ _ _ u m)
   rw[this,List.append_nil,List.take_of_length_le ha]
  ·by_cases hm:most<=d.length
   ·rw[if_pos (.inr hm),q45 hm,List.take_of_length_le ha]
   ·rw[if_neg (by rintro (h|h);exact u h;exact hm h),h0 d ha];dsimp only;rw[if_neg (by simp),qgl kids parts _ (by simpa using hl) (by rw[List.length_take];omega) (by
     rw[List.flatten_cons] at hr;exact (List.pairwise_append.1 hr).2.1) λj H=>?_]
    ·have:within fr «to» (p::parts).flatten=within fr «to» p++within fr «to» parts.flatten:=by unfold within;rw[List.flatten_cons,List.filter_append]
     rw[this,q8p,List.append_assoc]
    ·obtain⟨h1,z,s,E,F⟩:=h (j+1) (by rw[List.length_cons];omega);rw[getD_cons_succ] at h1 E;have G:Qe (x::kids) (j+1)=Qe kids j:=by unfold Qe;rw[getD_cons_succ]
     rw[G] at h1 F;exact⟨h1,z,s,E,F⟩
theorem qgm {α:Type}(l:List α)(n j:Nat)(d:α):(l.drop n).getD j d=l.getD (n+j) d:=by
 rw[List.getD_eq_getElem?_getD,List.getD_eq_getElem?_getD,List.getElem?_drop]
theorem qcw {R:Int->Nd × Int}(fr «to»:Kd)(most:Nat):∀(l:Nat) (a:Int) (its d:List Qb),Qm R l a its->Ql its->d.length<=most->Jl R fr «to» most l a d=((d++within fr «to» its).take most,0)
 |0,a,its,d,h,hr,y=>by
  obtain⟨h1,_⟩:=h;unfold Jl;rw[h1];dsimp only;rw[if_neg (by simp),if_neg (by simp)]
 |l+1,a,its,d,h,hr,y=>by
  obtain⟨kids,parts,h1,h2,J,rfl,H⟩:=h;have T:(⟨((l+1:Nat):Int),[],kids⟩:Nd).Zc fr=lastTo (kids.map (·.k)) fr kids.length:=by
   unfold Nd.Zc;have:¬((l+1:Nat):Int)=0:=by omega
   dsimp only;rw[if_neg this,q4q,List.length_map]
  obtain⟨n,hn⟩:∃n,lastTo (kids.map (·.k)) fr kids.length=n:=⟨_,rfl⟩;have X:0<kids.length:=List.length_pos_iff.2 h2;have u:n<kids.length:=by
   rcases q6w (kids.map (·.k)) fr kids.length with e|e<;>omega
  unfold Jl;rw[h1];dsimp only;rw[if_neg (by simp),if_neg (by simp),T,hn];have f:parts.flatten=(parts.take n).flatten++(parts.drop n).flatten:=by rw[<-List.flatten_append,List.take_append_drop]
  have m:within fr «to» (parts.take n).flatten=[]:=q44 λx W=>.inl (by
   obtain⟨p,O,F⟩:=List.mem_flatten.1 W;obtain⟨q,Q,e⟩:=List.getElem_of_mem O;have E:q<n:=by rw[List.length_take] at Q;omega
   have G:x∈parts.getD q []:=by
    rw[List.getElem_take] at e;rw[List.getD_eq_getElem?_getD,List.getElem?_eq_getElem (by omega),e];exact F
   obtain⟨_,z,s,A,B⟩:=H n u;have D:x.k.less z.k=true:=q5f hr E (by omega) G (by rw[A];exact List.mem_cons_self ..);have K:fr.less z.k=false:=by
    have:=q5e (kids.map (·.k)) fr kids.length (by omega);rw[hn,q4r kids u,B] at this;exact this
   exact qcv D K)
  have U:within fr «to» parts.flatten=within fr «to» (parts.drop n).flatten:=by
   have:within fr «to» parts.flatten=within fr «to» (parts.take n).flatten++within fr «to» (parts.drop n).flatten:=by
    conv=>lhs;rw[f]
    unfold within;rw[List.filter_append]
   rw[this,m,List.nil_append]
  rw[U];refine qgl (kids.drop n) (parts.drop n) d (by rw[List.length_drop,List.length_drop,J]) y ?_ λj M=>?_
  ·rw[f] at hr;exact (List.pairwise_append.1 hr).2.1
  ·rw[List.length_drop] at M;have I:Qe (kids.drop n) j=Qe kids (n+j):=by unfold Qe;rw[qgm]
   rw[I,qgm];obtain⟨D,z,s,A,B⟩:=H (n+j) (by omega);exact⟨λd y=>qcw fr «to» most l _ _ d D (q5g hr (n+j)) y,z,s,A,B⟩
theorem Sz {R R':Int->Nd × Int}(h:∀a,(R a).2=0->R' a=R a):∀{l:Nat} {a:Int} {its:List Qb},Qm R l a its->Qm R' l a its
 |0,a,its,hh=>⟨by rw[h a (by rw[hh.1])];exact hh.1,hh.2⟩
 |l+1,a,its,hh=>by
  obtain⟨kids,parts,h1,h2,m,p,d⟩:=hh;exact⟨kids,parts,by rw[h a (by rw[h1])];exact h1,h2,m,p,λj f=>⟨Sz h (d j f).1,(d j f).2⟩⟩
abbrev Zz:=Int × List Qb
def Qn (x:Zz):Qj:=⟨(Zb x.2 0).k,x.1⟩
def rowOf (G:List Zz):List Qb:=(G.map (·.2)).flatten
theorem qee {G:List Zz}{j:Nat}(d:j<G.length):Qe (G.map Qn) j=Qn G[j]:=by
 unfold Qe;rw[List.getD_eq_getElem?_getD,List.getElem?_map,List.getElem?_eq_getElem d];rfl
theorem q5h {G:List Zz}{j:Nat}(d:j<G.length):(G.map (·.2)).getD j []=(G[j]).2:=by
 rw[List.getD_eq_getElem?_getD,List.getElem?_map,List.getElem?_eq_getElem d];rfl
theorem qig {R:Int->Nd × Int}{l:Nat}{b:Int}{G:List Zz}(h:∀x∈G,Qm R l x.1 x.2)(f:G≠[])(m:R b=(⟨((l+1:Nat):Int),[],G.map Qn⟩,0)):Qm R (l+1) b (rowOf G):=by
 refine⟨G.map Qn,G.map (·.2),m,?_,by rw[List.length_map,List.length_map],rfl,λj d=>?_⟩
 ·intro e;exact f (List.map_eq_nil_iff.1 e)
 ·rw[List.length_map] at d;rw[qee d,q5h d];have h1:=h _ (List.getElem_mem d);obtain⟨x,r,e⟩:=q70 h1;exact⟨h1,x,r,e,by unfold Qn Zb;rw[e];rfl⟩
theorem qkz {ks:List Kd}(hm:∀k∈ks,k.may=true)(h:ks.Pairwise λa b=>a.less b=true):rises ks=true:=by
 refine qru λj d=>?_
 have e:∀i,(hi:i<ks.length)->keyAt ks i=ks[i]:=λi hi=>by unfold keyAt;rw[List.getD_eq_getElem?_getD,List.getElem?_eq_getElem hi];rfl
 unfold Wq;rw[e j d,hm _ (List.getElem_mem d),Bool.true_and];by_cases h0:j=0
 ·subst h0;rfl
 ·rw[e (j-1) (by omega),List.pairwise_iff_getElem.1 h (j-1) j (by omega) d (by omega),Bool.or_true]
theorem qvh {p:List Qb}(h1:1<=p.length)(u:p.length<=6)(y:Ql p)(m:∀x∈p,x.k.may=true/\x.v.length<=28):(⟨0,p,[]⟩:Nd).may=true:=by
 unfold Nd.may;rw[if_pos rfl,Bool.and_eq_true,Bool.and_eq_true];refine⟨?_,?_,decide_eq_true ⟨rfl,h1,u⟩⟩
 ·unfold q65;rw[List.all_eq_true];exact λx d=>decide_eq_true (m x d).2
 ·rw[q1m];refine qkz (λk d=>?_) (List.Pairwise.map _ (λ_ _ h=>h) y);obtain⟨x,f,rfl⟩:=List.mem_map.1 d;exact (m x f).1
theorem qrz {l:Nat}{G:List Zz}(M:l<7)(h2:2<=G.length)(u:G.length<=12)(J:Ql (rowOf G))(I:∀x∈rowOf G,x.k.may=true)(H:∀x∈G,1<=x.1/\x.1<2048)(D:∀x∈G,x.2≠[]):(⟨((l+1:Nat):Int),[],G.map Qn⟩:Nd).may=true:=by
 unfold Nd.may;have h0:¬((l+1:Nat):Int)=0:=by omega
 dsimp only;rw[if_neg h0,Bool.and_eq_true,Bool.and_eq_true];refine⟨?_,?_,decide_eq_true ⟨by omega,by omega,rfl,by rw[List.length_map];exact h2,by rw[List.length_map];exact u⟩⟩
 ·unfold G7;rw[List.all_eq_true];intro x d;obtain⟨y,K,rfl⟩:=List.mem_map.1 d;exact decide_eq_true (H y K)
 ·rw[q4q,List.map_map];have first:∀x∈G,∃y r,x.2=y::r/\(Qn x).k=y.k:=λx d=>by
   match e:x.2,D x d with
   |y::r,_=>exact⟨y,r,rfl,by unfold Qn Zb;rw[e];rfl⟩
  refine qkz (λk d=>?_) ?_
  ·obtain⟨x,f,rfl⟩:=List.mem_map.1 d;obtain⟨y,r,m,p⟩:=first x f
   show (Qn x).k.may=true;rw[p];refine I y ?_;unfold rowOf;rw[List.mem_flatten];exact⟨x.2,List.mem_map_of_mem f,by rw[m];exact List.mem_cons_self ..⟩
  ·rw[List.pairwise_map,List.pairwise_iff_getElem];intro i j hi B A;obtain⟨y,r,m,p⟩:=first _ (List.getElem_mem hi)
   obtain⟨z,s,E,F⟩:=first _ (List.getElem_mem B)
   show (Qn G[i]).k.less (Qn G[j]).k=true;rw[p,F];refine q5f J A (by rw[List.length_map];exact B) (x:=y) (y:=z) ?_ ?_
   ·rw[q5h hi,m];exact List.mem_cons_self ..
   ·rw[q5h B,E];exact List.mem_cons_self ..
