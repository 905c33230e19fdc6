/- Keys: the code's and the reference's Less and May; First and Last -/
import Derived.Test.YthkfkhejjmhomaaGreatDoorDz3
import Derived.Test.YthkfkhejjmhomaaGreatDoorDz4
import Derived.Deep.RegionHeld3
import Derived.Laws.StructEq
namespace Go.Proofs.YthkfkhejjmhomaaGreatDoor
open Go Go.RowKit Go.Proofs
set_option maxHeartbeats 2000000
def Kd.v (k:Kd):Value:=.agg #[.int .i64 k.obj,.int .i64 k.kind,.int .i64 k.off]
def Kd.vs (k:Kd):List Value:=[.int .i64 k.obj,.int .i64 k.kind,.int .i64 k.off]
def KB (w:World)(b:Nat)(k:Kd):Prop:=∃t,w.1[b]?=some (.cells #[.int .i64 k.obj,.int .i64 k.kind,.int .i64 k.off] t (0,0))
theorem KB.new (w:World)(x y z:Int)(t:TypeId):KB (w.alloc (.cells #[.int .i64 x,.int .i64 y,.int .i64 z] t)) w.1.size ⟨x,y,z⟩:=⟨t,heap_alloc_new w _⟩
theorem KB.below {w w':World}{b:Nat}{k:Kd}(H:KB w b k){B:Nat}(hb:Below B w w')(hB:b<B):KB w' b k:=by
 obtain⟨t,H⟩:=H;exact⟨t,(hb.block b hB).trans H⟩
theorem KB.range {w:World}{b:Nat}{k:Kd}(H:KB w b k):w.rangeAt b 0 k.vs:=λj v f=>by
 obtain⟨t,H⟩:=H;rw[cell_of_row _ _ _ _ _ _ H,Nat.zero_add];simpa [Kd.vs] using f
theorem KB.c0 {w:World}{b:Nat}{k:Kd}(H:KB w b k):w.cell? ⟨b,0,none⟩=some (.int .i64 k.obj):=H.range 0 _ rfl
theorem KB.c1 {w:World}{b:Nat}{k:Kd}(H:KB w b k):w.cell? ⟨b,1,none⟩=some (.int .i64 k.kind):=H.range 1 _ rfl
theorem KB.c2 {w:World}{b:Nat}{k:Kd}(H:KB w b k):w.cell? ⟨b,2,none⟩=some (.int .i64 k.off):=H.range 2 _ rfl
theorem Ri {w:World}{b:Nat}{k:Kd}(H:KB w b k):(loadVar 45 ⟨b,0,none⟩).run Tryz.prog w=.ok k.v w:=
 run_loadVar_mid w b 0 45 k.vs _ H.range Tryz.underlying45 rfl (by kernel_rfl)
theorem Rl {g:Func}{p:Tmp}{ty:TypeId}{q:Addr}{v:Value}{P:Program}{w:World}{f:Array Value}(h:g.results=#[.cell p ty])(y:f.getD p undef=.pointer (some q))(u:(loadVar ty q).run P w=.ok v w) :
  (results g f).run P w=.ok v w:=by
 have e:(results g f).run P w=((asAddr (f.getD p undef)).run P w).andThen λa D=>(loadVar ty a).run P D:=by
  simp only[results,h];simp[Sem.run_bind,Result.andThen];try rfl
 rw[e,y];simp[asAddr,u]
theorem Md {q:Func}{p a:Tmp}{ty:TypeId}{g:Addr}{v:Value}{P:Program}{w:World}{f:Array Value}(h:q.results=#[.cell p ty,.tmp a])(y:f.getD p undef=.pointer (some g))(u:(loadVar ty g).run P w=.ok v w) :
  (results q f).run P w=.ok (.tuple #[v,f.getD a undef]) w:=by
 have e:(results q f).run P w=((asAddr (f.getD p undef)).run P w).andThen λg D=>((loadVar ty g).run P D).andThen λv E=>.ok (.tuple #[v,f.getD a undef]) E:=by
  simp only[results,h];simp[Sem.run_bind,Result.andThen]
 rw[e,y];simp[asAddr,u]
theorem Qcf {q:Func}{p a b:Tmp}{ty:TypeId}{g:Addr}{v:Value}{P:Program}{w:World}{f:Array Value}(h:q.results=#[.cell p ty,.tmp a,.tmp b])(y:f.getD p undef=.pointer (some g))(u:(loadVar ty g).run P w=.ok v w) :
  (results q f).run P w=.ok (.tuple #[v,f.getD a undef,f.getD b undef]) w:=by
 have e:(results q f).run P w=((asAddr (f.getD p undef)).run P w).andThen λg D=>((loadVar ty g).run P D).andThen λv E=>.ok (.tuple #[v,f.getD a undef,f.getD b undef]) E:=by
  simp only[results,h];simp[Sem.run_bind,Result.andThen]
 rw[e,y];simp[asAddr,u]
theorem Qpb (a b:Kd)(w:World) :
  Calls Tryz.prog 55 #[.agg #[.int .i64 a.obj,.int .i64 a.kind,.int .i64 a.off],.agg #[.int .i64 b.obj,.int .i64 b.kind,.int .i64 b.off]] w λe w'=>e=.returned (.bool (a.less b))/\Below w.1.size w w':=by
 obtain⟨r,f⟩:∃r,a.less b=r:=⟨_,rfl⟩;rw[f];unfold Kd.less at f;by_cases h1:a.obj=b.obj
 ·rw[if_pos h1] at f;by_cases h2:a.kind=b.kind
  ·rw[if_pos h2] at f;go_enter Tryz.func55,Tryz.ntmps55
   go_wp2;go_ret;exact⟨by rw[<-f];rfl,(Ib).alloc (by simp) _⟩
  ·rw[if_neg h2] at f;go_enter Tryz.func55,Tryz.ntmps55
   go_wp2;go_ret;exact⟨by rw[<-f];rfl,(Ib).alloc (by simp) _⟩
 ·rw[if_neg h1] at f;go_enter Tryz.func55,Tryz.ntmps55
  go_wp2;go_ret;exact⟨by rw[<-f];rfl,(Ib).alloc (by simp) _⟩
theorem Qez (x m:Int)(w:World) :
  Calls Tryz.prog 182 #[.int .i64 x,.int .i64 m] w λe w'=>e=.returned (.bool (decide (0<=x/\x<=m)))/\w=w':=by
 go_enter Tryz.func182,Tryz.ntmps182
 go_wp2;all_goals
  go_ret;refine⟨congrArg (λx=>Ending.returned (Value.bool x)) ?_,rfl⟩;first
   |exact (decide_eq_false (by omega)).symm
   |exact decide_eq_decide.2 (by omega)
   |(rw[Bool.eq_iff_iff];simp;omega)
theorem Qt8 (k:Kd)(w:World) :
  Calls Tryz.prog 107 #[.agg #[.int .i64 k.obj,.int .i64 k.kind,.int .i64 k.off]] w λe w'=>e=.returned (.bool k.may)/\Below w.1.size w w':=by
 obtain⟨b,f⟩:∃b,k.may=b:=⟨_,rfl⟩;rw[f];unfold Kd.may at f;go_enter Tryz.func107,Tryz.ntmps107
 go_wp2_with fail
 refine (Qez k.obj 2147483647 _).mono ?_;by_cases h1:0<=k.obj/\k.obj<=2147483647
 ·rw[decide_eq_true h1];rintro e g ⟨rfl,rfl⟩;go_wp2_with fail
  refine (Qez k.kind 255 _).mono ?_;by_cases h2:0<=k.kind/\k.kind<=255
  ·rw[decide_eq_true h2];rintro e g ⟨rfl,rfl⟩;go_wp2_with fail
   refine (Qez k.off 2147483647 _).mono ?_;rintro e g ⟨rfl,rfl⟩;go_wp2;go_ret;exact⟨by rw[<-f];exact congrArg (λx=>Ending.returned (Value.bool x)) (by rw[Bool.eq_iff_iff];simp;omega),Ib⟩
  ·rw[decide_eq_false h2];rintro e g ⟨rfl,rfl⟩;go_wp2;go_ret;exact⟨by rw[<-f];exact congrArg (λx=>Ending.returned (Value.bool x)) (decide_eq_false (by omega)).symm,Ib⟩
 ·rw[decide_eq_false h1];rintro e g ⟨rfl,rfl⟩;go_wp2;go_ret;exact⟨by rw[<-f];exact congrArg (λx=>Ending.returned (Value.bool x)) (decide_eq_false (by omega)).symm,Ib⟩
theorem pin (l:List UInt8)(x n:Int)(h1:1<=n)(h2:n<=8):Qgr l x n=l++Zw x n.toNat:=if_pos ⟨h1,h2⟩
theorem KB.lt {w:World}{b:Nat}{k:Kd}(H:KB w b k):b<w.1.size:=by
 obtain⟨t,H⟩:=H;exact Jq H
theorem KB.there {w:World}{b:Nat}{k:Kd}(H:KB w b k):w.there b 0 3:=λj f=>by
 obtain⟨t,H⟩:=H;refine⟨?_,by unfold World.frozen?;rw[H];simp⟩;rw[cell_of_row _ _ _ _ _ _ H,Nat.zero_add,Array.getElem?_eq_getElem (by simpa using f)];rfl
theorem KB.stored {w:World}{b:Nat}{k:Kd}(H:KB w b k)(k2:Kd):KB (w.setCells b 0 k2.vs) b k2:=by
 obtain⟨t,H⟩:=H;exact⟨t,setCell_at _ (setCell_at _ (setCell_at _ H))⟩
theorem KB.keep {w w':World}{b:Nat}{k:Kd}(H:KB w b k)(h:w'.1[b]?=w.1[b]?):KB w' b k:=by
 obtain⟨t,H⟩:=H;exact⟨t,h.trans H⟩
theorem KB.fz {w:World}{b:Nat}{k:Kd}(H:KB w b k)(i:Nat):w.frozen? ⟨b,i,none⟩=false:=by
 obtain⟨t,H⟩:=H;unfold World.frozen?;rw[H];simp
theorem KB.set0 {w:World}{b:Nat}{k:Kd}(H:KB w b k)(x:Int):KB (w.setCell ⟨b,0,none⟩ (.int .i64 x)) b ⟨x,k.kind,k.off⟩:=by
 obtain⟨t,H⟩:=H;exact⟨t,setCell_at _ H⟩
theorem KB.set1 {w:World}{b:Nat}{k:Kd}(H:KB w b k)(x:Int):KB (w.setCell ⟨b,1,none⟩ (.int .i64 x)) b ⟨k.obj,x,k.off⟩:=by
 obtain⟨t,H⟩:=H;exact⟨t,setCell_at _ H⟩
theorem KB.set2 {w:World}{b:Nat}{k:Kd}(H:KB w b k)(x:Int):KB (w.setCell ⟨b,2,none⟩ (.int .i64 x)) b ⟨k.obj,k.kind,x⟩:=by
 obtain⟨t,H⟩:=H;exact⟨t,setCell_at _ H⟩
theorem Qkc {g:Array Oper}{f:List Oper}{o:Oper}{a:Act}{w:World}{Q:Exit->Act->World->Prop}(u:o.guard=none)(x:Operand)(p:o.op=Op.load 45 x)
  (b:Nat) (y:a.eval x=.pointer (some ⟨b,0,none⟩)) (k:Kd) (H:KB w b k) (q:wpList Tryz.prog g Q f (a.put o.dst k.v) w):wpList Tryz.prog g Q (o::f) a w:=
 wpList_load_mid u _ x p b 0 y k.vs _ H.range Tryz.underlying45 rfl (by kernel_rfl) q
theorem Nz {p:Array Oper}{f:List Oper}{o:Oper}{a:Act}{w:World}{Q:Exit->Act->World->Prop}(D:o.guard=none)(x y:Operand)(q:o.op=Op.store 45 x y)
  (b:Nat) (E:a.eval x=.pointer (some ⟨b,0,none⟩)) (k G:Kd) (F:a.eval y=k.v) (H:KB w b G)
  (u:∀w',KB w' b k->Turn (λg=>g=b) w w'->wpList Tryz.prog p Q f (a.put o.dst undef) w'):wpList Tryz.prog p Q (o::f) a w:=
 wpList_store_mid D _ x y q b 0 k.vs.toArray E F H.there (by kernel_rfl) (by simp[Kd.vs,Value.oneCell'])
  (u _ (H.stored k) (Gg (S:=λg=>g=b) rfl k.vs 0 w))
theorem Own.keep {w w':World}{base n c:Nat}{e:TypeId}{A:Option Addr}{l:List UInt8}(h:Own w base e A n c l)(hk:∀g,base<=g->g<w.1.size->w'.1[g]?=w.1[g]?):Own w' base e A n c l:=by
 refine⟨h.1,?_⟩;rcases h.2 with p|⟨g,cap,f,p,h1,q,r⟩
 ·exact .inl p
 ·exact .inr ⟨g,cap,f,p,h1,(hk g h1 (Array.getElem?_eq_some_iff.1 q).1).trans q,r⟩
theorem Qjf (w:World)(base:Nat)(e:TypeId):Own w base e none 0 0 []:=⟨by simp,.inl ⟨rfl,rfl⟩⟩
theorem Turn.I9 {b:Nat}{w w':World}(h:Turn (λg=>g=b) w w')(hb:b<w.1.size):Below b w w':=h.below (λx f=>by omega) (by omega)
theorem Qs1 (l:List UInt8)(k:Kd):l++Zw k.obj (4:Int).toNat++Zw k.kind (1:Int).toNat++Zw k.off (4:Int).toNat=l++k.bytes:=by
 unfold Kd.bytes;rw[List.append_assoc,List.append_assoc];rfl
theorem Qdv (A:Option Addr)(k c:Nat)(l:List UInt8)(x n:Int)(w:World)(h:Sl w A k c l)(y:k<=17592186044416)(h1:1<=n)(h2:n<=8) :
  Calls Tryz.prog 180 #[.slice A k c,.int .i64 x,.int .i64 n] w λe w'=>∃g f p,e=.returned (.slice g f p)/\Own w' w.1.size 5 g f p (l++Zw x n.toNat)/\f<=k+8/\Below w.1.size w w':=by
 have h:=put_any A k c l x n w h y;rw[pin _ _ n h1 h2] at h;refine h.mono ?_;rintro e w' ⟨g,f,p,rfl,own,u⟩;refine⟨g,f,p,rfl,own,?_,u⟩;have q:=own.len;rw[List.length_append,Ye,(show l.length=k from (by assumption:Sl w A k c l).len)] at q;omega
theorem Qo7 (A:Option Addr)(n c:Nat)(l:List UInt8)(k:Kd)(w:World)(h:Sl w A n c l)(hn:n<=4398046511104) :
  Calls Tryz.prog 284 #[.slice A n c,.agg #[.int .i64 k.obj,.int .i64 k.kind,.int .i64 k.off]] w λe w'=>∃J T O,e=.returned (.slice J T O)/\Own w' w.1.size 5 J T O (l++k.bytes)/\Below w.1.size w w':=by
 have R:=Lib.hid h.len;go_enter Tryz.func284,Tryz.ntmps284
 go_wp2_with fail
 have D:=KB.new w k.obj k.kind k.off 45;have h1:=h.alloc (.cells #[.int .i64 k.obj,.int .i64 k.kind,.int .i64 k.off] 45);have F:Below w.1.size w (w.alloc (.cells #[.int .i64 k.obj,.int .i64 k.kind,.int .i64 k.off] 45)):=Ib;generalize w.alloc (.cells #[.int .i64 k.obj,.int .i64 k.kind,.int .i64 k.off] 45)=w1 at D h1 F ⊢;have z1:=D.lt;refine (Qdv A n c l k.obj 4 w1 h1 (by omega) (by omega) (by omega)).mono ?_;rintro e w2 ⟨V,n2,c2,rfl,q,Y,f⟩;have E:=D.below f z1;have z2:=E.lt;have q1:=E.c1;go_wp2_with fail
 refine (Qdv V n2 c2 _ k.kind 1 w2 q.sl (by omega) (by omega) (by omega)).mono ?_;rintro e U ⟨W,n3,c3,rfl,u,Z,g⟩;have M:=E.below g z2;have z3:=M.lt;have q2:=M.c2;clear q1;go_wp2_with fail
 refine (Qdv W n3 c3 _ k.off 4 U u.sl (by omega) (by omega) (by omega)).mono ?_;rw[Qs1];rintro e w4 ⟨X,n4,c4,rfl,y,_,I⟩;have s2:=f.size;have s3:=g.size;have p:=F.trans ((f.trans (g.mono s2)).mono F.size);have Q:w.1.size<=U.1.size:=p.size;have G:=p.trans (I.mono Q);have o5:=y.less Q;go_wp2;go_ret;exact⟨X,n4,c4,rfl,o5,G⟩
def Wy (l:List UInt8):Kd:=⟨(Zo (l.take 4):Int),(Zo ((l.drop 4).take 1):Int),(Zo ((l.drop 5).take 4):Int)⟩
def Ue (l:List UInt8):Bool:=decide (9<=l.length)&&(Wy l).may
def U9 (l:List UInt8):Kd:=if Ue l=true then Wy l else ⟨0,0,0⟩
def Y6 (l:List UInt8):List UInt8:=if Ue l=true then l.drop 9 else []
def Bq (l:List UInt8):Int:=if Ue l=true then 0 else if l.length<9 then 2 else 3
theorem Qza {l:List UInt8}(h:l.length<9):U9 l=⟨0,0,0⟩/\Y6 l=[]/\Bq l=2:=by
 have f:Ue l=false:=by unfold Ue;rw[decide_eq_false (by omega)];rfl
 unfold U9 Y6 Bq;rw[f,if_pos h];exact⟨rfl,rfl,rfl⟩
theorem Zfp {l:List UInt8}(h:¬l.length<9)(hm:(Wy l).may=false):U9 l=⟨0,0,0⟩/\Y6 l=[]/\Bq l=3:=by
 have f:Ue l=false:=by unfold Ue;rw[hm,Bool.and_false]
 unfold U9 Y6 Bq;rw[f,if_neg h];exact⟨rfl,rfl,rfl⟩
theorem Qzb {l:List UInt8}(h:¬l.length<9)(hm:(Wy l).may=true):U9 l=Wy l/\Y6 l=l.drop 9/\Bq l=0:=by
 have f:Ue l=true:=by unfold Ue;rw[hm,decide_eq_true (by omega)];rfl
 unfold U9 Y6 Bq;rw[f];exact⟨rfl,rfl,rfl⟩
theorem Zeg (l:List UInt8):(l.drop (4:Int).toNat).drop (1:Int).toNat=l.drop 5:=by rw[List.drop_drop];rfl
theorem Zeh (l:List UInt8):(l.drop 5).drop (4:Int).toNat=l.drop 9:=by rw[List.drop_drop];rfl
theorem Qb6 (A:Option Addr)(k c:Nat)(l:List UInt8)(n:Int)(m:Nat)(w:World)(h:Sl w A k c l)(u:k<=17592186044416)(h1:1<=n)(p:n<=7)(hn:n<=(k:Int))(hm:m=k-n.toNat) :
  Calls Tryz.prog 151 #[.slice A k c,.int .i64 n] w λe w'=>∃f g,e=.returned (.tuple #[.int .i64 (Zo (l.take n.toNat)),.slice f m g,.int .i64 0])/\Own w' w.1.size 5 f m g (l.drop n.toNat)/\Below w.1.size w w':=by
 refine (Qby A k c l n w h u h1 p hn).mono ?_;rintro e w' ⟨f,y,g,rfl,own,q⟩;have:=own.len;rw[List.length_drop,h.len] at this;obtain rfl:y=m:=by omega
 exact⟨f,g,rfl,own,q⟩
theorem Qv2 (A:Option Addr)(n c:Nat)(l:List UInt8)(w:World)(h:Sl w A n c l)(hn:n<=17592186044416) :
  Calls Tryz.prog 212 #[.slice A n c] w λe w'=>∃A' n' c',e=.returned (.tuple #[(U9 l).v,.slice A' n' c',.int .i64 (Bq l)])/\Own w' w.1.size 5 A' n' c' (Y6 l)/\Below w.1.size w w':=by
 have D:=Lib.hid h.len;have V:∀o,Below w.1.size w (w.alloc o):=λo=>(Below.refl _ _).alloc (Nat.le_refl _) o
 by_cases h9:n<9
 ·obtain⟨O,Q,R⟩:=Qza (l:=l) (by rw[D.out];exact h9);rw[O,Q,R];go_enter Tryz.func212,Tryz.ntmps212
  go_wp2;refine bodyPost_ret (Qcf Tryz.results212 rfl (Ri (KB.new w 0 0 0 _))) rfl ?_;exact⟨_,_,_,rfl,Qjf _ _ _,V _⟩
 ·have W:¬l.length<9:=by rw[D.out];exact h9
  go_enter Tryz.func212,Tryz.ntmps212
  go_wp2_with fail
  have R2:KB ((w.alloc (.cells #[.int .i64 0,.int .i64 0,.int .i64 0] 45)).alloc (.cells #[.int .i64 0,.int .i64 0,.int .i64 0] 45)) w.1.size ⟨0,0,0⟩:=(KB.new w 0 0 0 _).below (Ib) (by simp);have K2:KB ((w.alloc (.cells #[.int .i64 0,.int .i64 0,.int .i64 0] 45)).alloc (.cells #[.int .i64 0,.int .i64 0,.int .i64 0] 45)) (w.1.size+1) ⟨0,0,0⟩:=by
   have:=KB.new (w.alloc (.cells #[.int .i64 0,.int .i64 0,.int .i64 0] 45)) 0 0 0 45;rwa [World.size_alloc] at this
  have B2:Below w.1.size w ((w.alloc (.cells #[.int .i64 0,.int .i64 0,.int .i64 0] 45)).alloc (.cells #[.int .i64 0,.int .i64 0,.int .i64 0] 45)):=(V _).alloc (by simp) _;generalize (w.alloc (.cells #[.int .i64 0,.int .i64 0,.int .i64 0] 45)).alloc (.cells #[.int .i64 0,.int .i64 0,.int .i64 0] 45)=w2 at R2 K2 B2 ⊢;have h2:=h.below B2;have z2:=K2.lt;refine (Qb6 A n c l 4 (n-4) w2 h2 hn (by omega) (by omega) (by omega) rfl).mono ?_;rintro e w3 ⟨A3,c3,rfl,E,q⟩;have R3:=R2.below q R2.lt;have K3:=K2.below q z2;have B3:=B2.trans (q.mono B2.size);clear R2 K2 h2 q;have Z:=K3.c0;have T:=K3.fz 0;have o3:=E.less (show w.1.size+2<=w2.1.size by omega);obtain⟨X,hX⟩:∃X,Zo (l.take (4:Int).toNat)=X:=⟨_,rfl⟩;rw[hX];clear E z2;go_wp2_with fail
  have K4:=K3.set0 (X:Int);have R4:=R3.keep (w':=w3.setCell ⟨w.1.size+1,0,none⟩ (.int .i64 (X:Int))) (Below.heap_setCell _ _ _ _ (by show w.1.size≠w.1.size+1;omega));have o4:=o3.keep (w':=w3.setCell ⟨w.1.size+1,0,none⟩ (.int .i64 (X:Int))) (λg hg _=>Below.heap_setCell _ _ _ _ (by show g≠w.1.size+1;omega));have B4:=B3.setCell (p:=⟨w.1.size+1,0,none⟩) (show w.1.size<=w.1.size+1 by omega) (.int .i64 (X:Int));clear Z T;generalize w3.setCell ⟨w.1.size+1,0,none⟩ (.int .i64 (X:Int))=w4 at K4 R4 o4 B4 ⊢;have z4:=K4.lt;refine (Qb6 A3 (n-4) c3 _ 1 (n-5) w4 o4.sl (by omega) (by omega) (by omega) (by omega) rfl).mono ?_;rw[Zeg];rintro e w5 ⟨A5,c5,rfl,F,u⟩;have R5:=R4.below u R4.lt;have K5:=K4.below u z4;have B5:=B4.trans (u.mono B4.size);have Z:=K5.c1;have T:=K5.fz 1;have o5:=F.less (show w.1.size+2<=w4.1.size by omega);obtain⟨Y,hY⟩:∃Y,Zo ((l.drop (4:Int).toNat).take (1:Int).toNat)=Y:=⟨_,rfl⟩;rw[hY];clear F z4 R3 K3 B3 R4 K4 B4 o3 o4 u;go_wp2_with fail
  have K6:=K5.set1 (Y:Int);have R6:=R5.keep (w':=w5.setCell ⟨w.1.size+1,1,none⟩ (.int .i64 (Y:Int))) (Below.heap_setCell _ _ _ _ (by show w.1.size≠w.1.size+1;omega));have o6:=o5.keep (w':=w5.setCell ⟨w.1.size+1,1,none⟩ (.int .i64 (Y:Int))) (λg hg _=>Below.heap_setCell _ _ _ _ (by show g≠w.1.size+1;omega));have B6:=B5.setCell (p:=⟨w.1.size+1,1,none⟩) (show w.1.size<=w.1.size+1 by omega) (.int .i64 (Y:Int));clear Z T;generalize w5.setCell ⟨w.1.size+1,1,none⟩ (.int .i64 (Y:Int))=w6 at K6 R6 o6 B6 ⊢;have z6:=K6.lt;refine (Qb6 A5 (n-5) c5 _ 4 (n-9) w6 o6.sl (by omega) (by omega) (by omega) (by omega) rfl).mono ?_;rw[Zeh];rintro e w7 ⟨A7,c7,rfl,G,y⟩;have R7:=R6.below y R6.lt;have K7:=K6.below y z6;have B7:=B6.trans (y.mono B6.size);have Z:=K7.c2;have T:=K7.fz 2;have o7:=G.less (show w.1.size+2<=w6.1.size by omega);obtain⟨U,hU⟩:∃U,Zo ((l.drop 5).take (4:Int).toNat)=U:=⟨_,rfl⟩;rw[hU];have hK:Wy l=⟨(X:Int),(Y:Int),(U:Int)⟩:=by rw[<-hX,<-hY,<-hU];rfl
  clear G z6 R5 K5 B5 R6 K6 B6 o5 o6 y;have K8:=K7.set2 (U:Int);have J:=R7.keep (w':=w7.setCell ⟨w.1.size+1,2,none⟩ (.int .i64 (U:Int))) (Below.heap_setCell _ _ _ _ (by show w.1.size≠w.1.size+1;omega));have o8:=o7.keep (w':=w7.setCell ⟨w.1.size+1,2,none⟩ (.int .i64 (U:Int))) (λg hg _=>Below.heap_setCell _ _ _ _ (by show g≠w.1.size+1;omega));have I:=B7.setCell (p:=⟨w.1.size+1,2,none⟩) (show w.1.size<=w.1.size+1 by omega) (.int .i64 (U:Int));go_wp2_with (first
   |(refine Qkc rfl (.tmp 5) rfl (w.1.size+1) rfl ⟨(X:Int),(Y:Int),(U:Int)⟩ K8 ?_)
   |fail)
  clear Z T K7 R7 o7 B7;generalize w7.setCell ⟨w.1.size+1,2,none⟩ (.int .i64 (U:Int))=w8 at K8 J o8 I ⊢;have z8:=K8.lt;refine (Qt8 ⟨(X:Int),(Y:Int),(U:Int)⟩ w8).mono ?_;obtain⟨b,hb⟩:∃b,(⟨(X:Int),(Y:Int),(U:Int)⟩:Kd).may=b:=⟨_,rfl⟩;have hm:(Wy l).may=b:=by rw[hK,hb]
  rw[hb]
  cases b
  ·obtain⟨O,Q,R⟩:=Zfp W hm;rintro e w9 ⟨rfl,f⟩;have M:=J.below f J.lt;have B9:=I.trans (f.mono I.size);go_wp2_with (first
    |(refine Nz rfl (.tmp 2) (.tmp 34) rfl w.1.size rfl ⟨0,0,0⟩ _ rfl M ?_;intro wz Rz Tz)
    |fail)
   refine bodyPost_ret (Qcf Tryz.results212 rfl (Ri Rz)) rfl ?_;rw[O,Q,R];exact⟨_,_,_,rfl,Qjf _ _ _,B9.trans (Tz.I9 M.lt)⟩
  ·obtain⟨O,Q,R⟩:=Qzb W hm;rintro e w9 ⟨rfl,f⟩;have M:=J.below f J.lt;have K9:=K8.below f z8;have B9:=I.trans (f.mono I.size);have o9:=o8.below f;go_wp2_with (first
    |(refine Qkc rfl (.tmp 5) rfl (w.1.size+1) rfl ⟨(X:Int),(Y:Int),(U:Int)⟩ K9 ?_)
    |(refine Nz rfl (.tmp 2) (.tmp 35) rfl w.1.size rfl ⟨(X:Int),(Y:Int),(U:Int)⟩ _ rfl M ?_;intro wz Rz Tz)
    |fail)
   rw[<-hK] at Rz;refine bodyPost_ret (Qcf Tryz.results212 rfl (Ri Rz)) rfl ?_;rw[O,Q,R];refine⟨A7,n-9,c7,rfl,?_,B9.trans (Tz.I9 M.lt)⟩;exact (o9.keep λg hg hl=>Tz.block g hl (by show ¬g=w.1.size;omega)).less (by omega)
theorem Qsm (a b:Kd)(w:World):(binOp .eql 45 a.v b.v).run Tryz.prog w=.ok (.bool (a.same b)) w:=by
 unfold Kd.v;rw[run_eql_struct,run_equalIn_agg w 9999 45 _ _ (by kernel_rfl) (by kernel_rfl)];unfold Program.fieldsOf;rw[Tryz.underlying45];simp[go_sem,Tryz.underlying3];unfold Kd.same;by_cases h1:a.obj=b.obj
 ·by_cases h2:a.kind=b.kind
  ·by_cases f:a.off=b.off
   ·simp[h1,h2,f]
   ·simp[h1,h2,f]
  ·simp[h1,h2]
 ·simp[h1]
theorem KB.new2 (w:World)(o:Obj)(x y z:Int)(t:TypeId):KB ((w.alloc o).alloc (.cells #[.int .i64 x,.int .i64 y,.int .i64 z] t)) (w.1.size+1) ⟨x,y,z⟩:=by
 have:=KB.new (w.alloc o) x y z t;rwa [World.size_alloc] at this
theorem Qip (x y:Operand)(xs f:Array Value)(w:World):(eqGuard .eql 45 x y (.agg xs) (.agg f)).run Tryz.prog w=.ok () w:=
 run_eqGuard_agg w .eql 45 x y xs f (by kernel_rfl)
theorem Qom (a b:Kd)(r:Bool)(h:a.same b=r)(w:World):(binOp .eql 45 (.agg #[.int .i64 a.obj,.int .i64 a.kind,.int .i64 a.off]) (.agg #[.int .i64 b.obj,.int .i64 b.kind,.int .i64 b.off])).run Tryz.prog w=.ok (.bool r) w:=by
 have:=Qsm a b w;rw[h] at this;exact this
theorem Qdo (a b:Kd)(r:Bool)(h:a.less b=r)(w:World) :
  Calls Tryz.prog 55 #[.agg #[.int .i64 a.obj,.int .i64 a.kind,.int .i64 a.off],.agg #[.int .i64 b.obj,.int .i64 b.kind,.int .i64 b.off]] w λe w'=>e=.returned (.bool r)/\Below w.1.size w w':=by
 have:=Qpb a b w;rw[h] at this;exact this
theorem Rj (a:Kd)(r:Bool)(h:a.may=r)(w:World) :
  Calls Tryz.prog 107 #[.agg #[.int .i64 a.obj,.int .i64 a.kind,.int .i64 a.off]] w λe w'=>e=.returned (.bool r)/\Below w.1.size w w':=by
 have:=Qt8 a w;rw[h] at this;exact this
theorem Qap (w:World)(a:Kd):KB (w.alloc (.cells #[.int .i64 a.obj,.int .i64 a.kind,.int .i64 a.off] 45)) w.1.size a/\Below w.1.size w (w.alloc (.cells #[.int .i64 a.obj,.int .i64 a.kind,.int .i64 a.off] 45)):=
 ⟨KB.new w a.obj a.kind a.off _,Ib⟩
theorem Zd7 (w:World)(a b:Kd):KB ((w.alloc (.cells #[.int .i64 a.obj,.int .i64 a.kind,.int .i64 a.off] 45)).alloc (.cells #[.int .i64 b.obj,.int .i64 b.kind,.int .i64 b.off] 45)) w.1.size a/\KB ((w.alloc (.cells #[.int .i64 a.obj,.int .i64 a.kind,.int .i64 a.off] 45)).alloc (.cells #[.int .i64 b.obj,.int .i64 b.kind,.int .i64 b.off] 45)) (w.1.size+1) b/\Below w.1.size w ((w.alloc (.cells #[.int .i64 a.obj,.int .i64 a.kind,.int .i64 a.off] 45)).alloc (.cells #[.int .i64 b.obj,.int .i64 b.kind,.int .i64 b.off] 45)):=
 ⟨(KB.new w a.obj a.kind a.off _).below (Ib) (by simp),KB.new2 w _ b.obj b.kind b.off _,(Ib).alloc (by simp) _⟩
theorem Zcn (k:Kd)(u:k.may=true)(l:List UInt8):Wy (k.bytes++l)=k:=by
 obtain⟨⟨y,F⟩,⟨D,G⟩,E,I⟩:=(Kd.Vj k).1 u;have f:k.bytes++l=Zw k.obj 4++(Zw k.kind 1++(Zw k.off 4++l)):=by unfold Kd.bytes;rw[List.append_assoc,List.append_assoc]
 have p:(k.bytes++l).take 4=Zw k.obj 4:=by rw[f];exact List.take_left' (Ye _ _)
 have g:(k.bytes++l).drop 4=Zw k.kind 1++(Zw k.off 4++l):=by rw[f];exact List.drop_left' (Ye _ _)
 have q:(k.bytes++l).drop 5=Zw k.off 4++l:=by
  rw[show (5:Nat)=4+1 from rfl,<-List.drop_drop,g];exact List.drop_left' (Ye _ _)
 unfold Wy;rw[p,g,q,List.take_left' (Ye _ _),List.take_left' (Ye _ _),Qbu k.obj 4 y (by omega),Qbu k.kind 1 D (by omega),Qbu k.off 4 E (by omega)]
theorem Qt6 (k:Kd)(g:k.may=true)(l:List UInt8):U9 (k.bytes++l)=k/\Y6 (k.bytes++l)=l/\Bq (k.bytes++l)=0:=by
 have f:=Zcn k g l;obtain⟨h1,h2,p⟩:=Qzb (l:=k.bytes++l) (by rw[List.length_append,Kd.Jf];omega) (by rw[f];exact g);rw[h1,h2,p,f];exact⟨rfl,List.drop_left' (Kd.Jf k),rfl⟩
theorem Zco (k:Kd):k.same k=true:=(Kd.same_iff k k).2 ⟨rfl,rfl,rfl⟩
theorem Qlh (A:Option Addr)(n c:Nat)(l:List UInt8)(K:Kd)(R:List UInt8)(E:Int)(u:U9 l=K)(y:Y6 l=R)(q:Bq l=E)(w:World)(h:Sl w A n c l)(hn:n<=17592186044416) :
  Calls Tryz.prog 212 #[.slice A n c] w λe w'=>∃f p g,e=.returned (.tuple #[.agg #[.int .i64 K.obj,.int .i64 K.kind,.int .i64 K.off],.slice f p g,.int .i64 E])/\Own w' w.1.size 5 f p g R/\Below w.1.size w w':=by
 have:=Qv2 A n c l w h hn;rw[u,y,q] at this;exact this
def Ja (ks:List Kd)(i:Nat):Bool:=(keyAt ks i).may&&(decide (i=0)||(keyAt ks (i-1)).less (keyAt ks i))
def rises (ks:List Kd):Bool:=(List.range ks.length).all (Ja ks)
theorem D5 {ks:List Kd}(h:∀j,j<ks.length->Ja ks j=true):rises ks=true:=by
 unfold rises;rw[List.all_eq_true];exact λj f=>h j (List.mem_range.1 f)
def Nd.keys (N:Nd):List Kd:=N.items.map (·.k)++N.kids.map (·.k)
def NB (w:World)(b:Nat)(l:Int)(A:Option Addr)(n c:Nat)(B:Option Addr)(m d:Nat):Prop:=∃t,w.1[b]?=some (.cells #[.int .i64 l,.slice A n c,.slice B m d] t (0,0))
section
variable {w w':World}{b:Nat}{l:Int}{A B:Option Addr}{n c m d:Nat}
theorem NB.new (w:World)(l:Int)(A:Option Addr)(n c:Nat)(B:Option Addr)(m d:Nat)(t:TypeId):NB (w.alloc (.cells #[.int .i64 l,.slice A n c,.slice B m d] t)) w.1.size l A n c B m d:=⟨t,heap_alloc_new w _⟩
theorem NB.below (H:NB w b l A n c B m d){E:Nat}(hb:Below E w w')(hB:b<E):NB w' b l A n c B m d:=by
 obtain⟨t,H⟩:=H;exact⟨t,(hb.block b hB).trans H⟩
theorem NB.lt (H:NB w b l A n c B m d):b<w.1.size:=by
 obtain⟨t,H⟩:=H;exact (Array.getElem?_eq_some_iff.1 H).1
theorem NB.c0 (H:NB w b l A n c B m d):w.cell? ⟨b,0,none⟩=some (.int .i64 l):=by
 obtain⟨t,H⟩:=H;rw[cell_of_row _ _ _ _ _ _ H];rfl
theorem NB.c1 (H:NB w b l A n c B m d):w.cell? ⟨b,1,none⟩=some (.slice A n c):=by
 obtain⟨t,H⟩:=H;rw[cell_of_row _ _ _ _ _ _ H];rfl
theorem NB.c2 (H:NB w b l A n c B m d):w.cell? ⟨b,2,none⟩=some (.slice B m d):=by
 obtain⟨t,H⟩:=H;rw[cell_of_row _ _ _ _ _ _ H];rfl
end
theorem Nl (l:Int)(r:Bool)(h:decide (l=0)=r)(A:Option Addr)(n c:Nat)(B:Option Addr)(m d:Nat)(w:World) :
  Calls Tryz.prog 141 #[.agg #[.int .i64 l,.slice A n c,.slice B m d]] w λe w'=>e=.returned (.bool r)/\Below w.1.size w w':=by
 go_enter Tryz.func141,Tryz.ntmps141
 go_wp2;go_ret;refine⟨?_,Ib⟩;rw[<-h];first|rfl|(refine congrArg (λx=>Ending.returned (Value.bool x)) ?_;rw[Bool.eq_iff_iff];simp)
theorem Tc (x a b:Int)(r:Bool)(h:decide (a<=x/\x<=b)=r)(w:World) :
  Calls Tryz.prog 216 #[.int .i64 x,.int .i64 a,.int .i64 b] w λe w'=>e=.returned (.bool r)/\w=w':=by
 subst h;go_enter Tryz.func216,Tryz.ntmps216
 go_wp2;all_goals
  go_ret;refine⟨congrArg (λx=>Ending.returned (Value.bool x)) ?_,rfl⟩;first
   |exact (decide_eq_false (by omega)).symm
   |exact decide_eq_decide.2 (by omega)
   |(rw[Bool.eq_iff_iff];simp;omega)
theorem Qq3 (x:Int)(w:World) :
  Calls Tryz.prog 140 #[.int .i64 x] w λe w'=>e=.returned (.int .i64 (if x=0 then 3 else 4))/\w=w':=by
 by_cases h:x=0
 ·rw[if_pos h];go_enter Tryz.func140,Tryz.ntmps140
  go_wp2;go_ret;exact⟨rfl,rfl⟩
 ·rw[if_neg h];go_enter Tryz.func140,Tryz.ntmps140
  go_wp2;go_ret;exact⟨rfl,rfl⟩
theorem Qa2 (x k:Int)(h:(if x=0 then 3 else 4)=k)(w:World) :
  Calls Tryz.prog 140 #[.int .i64 x] w λe w'=>e=.returned (.int .i64 k)/\w=w':=by
 subst h;exact Qq3 x w
theorem Pg (k:Kd)(B:Option Addr)(m d:Nat)(w:World) :
  Calls Tryz.prog 170 #[.agg #[.int .i64 k.obj,.int .i64 k.kind,.int .i64 k.off,.slice B m d]] w λe w'=>e=.returned (.agg #[.int .i64 k.obj,.int .i64 k.kind,.int .i64 k.off])/\Below w.1.size w w':=by
 go_enter Tryz.func170,Tryz.ntmps170
 go_wp2;refine bodyPost_ret (Rl Tryz.results170 rfl (Ri (KB.new2 w _ k.obj k.kind k.off _))) rfl ?_;exact⟨rfl,(Ib).alloc (by simp) _⟩
theorem Ph (k:Kd)(a:Int)(w:World) :
  Calls Tryz.prog 173 #[.agg #[.int .i64 k.obj,.int .i64 k.kind,.int .i64 k.off,.int .i64 a]] w λe w'=>e=.returned (.agg #[.int .i64 k.obj,.int .i64 k.kind,.int .i64 k.off])/\Below w.1.size w w':=by
 go_enter Tryz.func173,Tryz.ntmps173
 go_wp2;refine bodyPost_ret (Rl Tryz.results173 rfl (Ri (KB.new2 w _ k.obj k.kind k.off _))) rfl ?_;exact⟨rfl,(Ib).alloc (by simp) _⟩
theorem Qgd (k:Kd)(B:Option Addr)(m d:Nat)(r:Bool)(h:decide (m<=28)=r)(w:World) :
  Calls Tryz.prog 215 #[.agg #[.int .i64 k.obj,.int .i64 k.kind,.int .i64 k.off,.slice B m d]] w λe w'=>e=.returned (.bool r)/\Below w.1.size w w':=by
 go_enter Tryz.func215,Tryz.ntmps215
 go_wp2;go_ret;refine⟨?_,Ib⟩;rw[<-h];exact congrArg (λx=>Ending.returned (Value.bool x)) (decide_eq_decide.2 (by omega))
theorem Qge (k:Kd)(a:Int)(r:Bool)(h:decide (1<=a/\a<=2047)=r)(w:World) :
  Calls Tryz.prog 218 #[.agg #[.int .i64 k.obj,.int .i64 k.kind,.int .i64 k.off,.int .i64 a]] w λe w'=>e=.returned (.bool r)/\Below w.1.size w w':=by
 go_enter Tryz.func218,Tryz.ntmps218
 go_wp2_with fail
 refine (Tc a 1 2047 r h _).mono ?_;rintro e f ⟨rfl,rfl⟩;go_wp2;go_ret;exact⟨rfl,Ib⟩
section
variable {P:Program}{t e:TypeId}{s b:Nat}{z:Value}(w:World)
end
theorem Zfl:Bc Tryz.prog 67 3 1 8 (.int .i64 0):=⟨Tryz.underlying67,by kernel_rfl,rfl,by omega⟩
def iv (z:Int):List Value:=[.int .i64 z]
theorem Qpc (w:World)(x:Int):Zg (w.alloc (.cells #[.int .i64 x] 3)) 1 (some ⟨w.1.size,0,none⟩) 1 1 [iv x]:=(Np w 3 1 (iv x) _ rfl rfl).Hr (by omega)
theorem Qy2 (x:Int):∀y∈[iv x],∀u∈y,u.oneCell'=true:=by
 intro y g u f;obtain rfl:y=iv x:=by simpa using g
 simp[iv] at f;subst f;rfl
def Vy (x:Qq):Option Int:=if x.k.kind=3/\x.v.length=3/\Xy x.v 0=1 then some (256*(Xy x.v 1:Int)+(Xy x.v 2:Int)) else none
def Nd.named (N:Nd):List Int:=N.kids.map (·.a)++N.items.filterMap Vy
def Qc9 (N:Nd)(j:Nat):List (List Value):=((N.kids.take j).map (·.a)).map iv
def O8 (N:Nd)(j:Nat):List (List Value):=(N.kids.map (·.a)++(N.items.take j).filterMap Vy).map iv
theorem Qpl (N:Nd)(j:Nat)(h:j<N.kids.length):Qc9 N (j+1)=Qc9 N j++[iv (Ql N.kids j).a]:=by
 unfold Qc9;rw[List.take_succ_eq_append_getElem h,List.map_append,List.map_append];have:=q32 h;rw[List.getElem?_eq_getElem h] at this;rw[Option.some.inj this];rfl
theorem Qi9 (N:Nd):Qc9 N N.kids.length=O8 N 0:=by
 unfold Qc9 O8;rw[List.take_length];simp
theorem Qr4 (N:Nd)(j:Nat)(h:j<N.items.length)(x:Int)(f:Vy (Qx N.items j)=some x):O8 N (j+1)=O8 N j++[iv x]:=by
 unfold O8;have:=Ae h;rw[List.getElem?_eq_getElem h] at this;rw[List.take_succ_eq_append_getElem h,Option.some.inj this,List.filterMap_append,<-List.append_assoc,List.map_append];simp[f]
theorem Qwc (N:Nd)(j:Nat)(h:j<N.items.length)(f:Vy (Qx N.items j)=none):O8 N (j+1)=O8 N j:=by
 unfold O8;have:=Ae h;rw[List.getElem?_eq_getElem h] at this;rw[List.take_succ_eq_append_getElem h,Option.some.inj this,List.filterMap_append];simp[f]
theorem Qi8 (N:Nd):O8 N N.items.length=N.named.map iv:=by
 unfold O8 Nd.named;rw[List.take_length]
def sumTo:Nat->(Nat->Nat)->Nat
 |0,_=>0
 |n+1,f=>sumTo n f+f n
theorem Uj {f g:Nat->Nat}:∀{n:Nat},(∀b,b<n->f b=g b)->sumTo n f=sumTo n g
 |0,_=>rfl
 |n+1,h=>by
  unfold sumTo;rw[Uj (n:=n) (λb p=>h b (by omega)),h n (by omega)]
theorem Qj5 {f:Nat->Nat}:∀{n:Nat},(∀b,b<n->f b=0)->sumTo n f=0
 |0,_=>rfl
 |n+1,h=>by
  unfold sumTo;rw[Qj5 (n:=n) (λb g=>h b (by omega)),h n (by omega)]
theorem Gw {f g:Nat->Nat}{i:Nat}:∀{n:Nat},(∀b,b<n->b≠i->f b=g b)->i<n->sumTo n g+f i=sumTo n f+g i
 |0,_,hi=>by omega
 |n+1,h,hi=>by
  unfold sumTo;by_cases e:i=n
  ·subst e;rw[Uj (n:=i) (λb p=>h b (by omega) (by omega))];omega
  ·have:=Gw (n:=n) (λb p hn=>h b (by omega) hn) (by omega);have:=h n (by omega) (by omega);omega
theorem Ql8 {f:Nat->Nat}:∀{n:Nat},0<sumTo n f->∃b,b<n/\0<f b
 |0,h=>by cases h
 |n+1,h=>by
  unfold sumTo at h;by_cases e:0<f n
  ·exact⟨n,by omega,e⟩
  ·obtain⟨b,h1,h2⟩:=Ql8 (n:=n) (f:=f) (by omega);exact⟨b,by omega,h2⟩
theorem Us {f:Nat->Nat}{i:Nat}:∀{n:Nat},i<n->f i<=sumTo n f
 |0,h=>by omega
 |n+1,h=>by
  unfold sumTo;by_cases e:i=n
  ·subst e;omega
  ·have:=Us (f:=f) (n:=n) (i:=i) (by omega);omega
def refs (K:Nat->List Int)(most:Nat)(out:Nat->Nat)(a:Nat):Nat:=sumTo most λb=>if 1<=out b then (K b).count (a:Int) else 0
structure Vg (K:Nat->List Int)(roots:List Int)(most:Nat)(out:Nat->Nat)(todo:List Int):Prop where
 zero:out 0=0
 eq:∀a:Nat,0<a->a<most->out a+todo.count (a:Int)=roots.count (a:Int)+refs K most out a
structure Qs (n:Nat)(cnt:Nat->Nat)(K:Nat->List Int)(H:List Int):Prop where
 eq:∀a:Nat,0<a->a<n->cnt a=H.count (a:Int)+refs K n cnt a
section
variable {n:Nat}{cnt:Nat->Nat}{K:Nat->List Int}{H:List Int}
theorem Qs.perm (h:Qs n cnt K H){H':List Int}(hH:∀a:Nat,0<a->a<n->H'.count (a:Int)=H.count (a:Int)):Qs n cnt K H':=
 ⟨λa h1 h2=>by rw[hH a h1 h2];exact h.eq a h1 h2⟩
theorem Ul {K K':Nat->List Int}{cnt cnt':Nat->Nat}{n a:Nat}(h:∀b,b<n->(1<=cnt b↔1<=cnt' b)/\(1<=cnt b->K' b=K b)):refs K' n cnt' a=refs K n cnt a:=
 Uj λb g=>by
  obtain⟨h1,h2⟩:=h b g;by_cases e:1<=cnt b
  ·rw[if_pos e,if_pos (h1.1 e),h2 e]
  ·rw[if_neg e,if_neg (λf=>e (h1.2 f))]
theorem Qs.same (h:Qs n cnt K H){cnt':Nat->Nat}{K':Nat->List Int}(hc:∀b,b<n->cnt' b=cnt b)(hK:∀b,b<n->1<=cnt b->K' b=K b):Qs n cnt' K' H:=
 ⟨λa h1 h2=>by
  rw[hc a h2,h.eq a h1 h2];congr 1
  exact (Ul λb f=>⟨by rw[hc b f],hK b f⟩).symm⟩
theorem Ai {K K':Nat->List Int}{cnt cnt':Nat->Nat}{n i a:Nat}(hi:i<n)(u:∀b,b<n->b≠i->cnt' b=cnt b)(q:∀b,b<n->b≠i->K' b=K b) :
  refs K' n cnt' a+(if 1<=cnt i then (K i).count (a:Int) else 0)=refs K n cnt a+(if 1<=cnt' i then (K' i).count (a:Int) else 0):=
 Gw (f:=λb=>if 1<=cnt b then (K b).count (a:Int) else 0) (g:=λb=>if 1<=cnt' b then (K' b).count (a:Int) else 0)
  (λb p hn=>by
   show (if 1<=cnt b then (K b).count (a:Int) else 0)=(if 1<=cnt' b then (K' b).count (a:Int) else 0);rw[u b p hn,q b p hn]) hi
theorem Qs.put (h:Qs n cnt K H){c:Nat}{ks H0:List Int}{cnt':Nat->Nat}{K':Nat->List Int}(hc0:0<c)(hc:c<n)(hz:cnt c=0)(hH:∀a:Nat,0<a->a<n->H.count (a:Int)=ks.count (a:Int)+H0.count (a:Int))
  (h1:cnt' c=1) (h2:∀b,b<n->b≠c->cnt' b=cnt b) (h3:K' c=ks) (h4:∀b,b<n->b≠c->K' b=K b):Qs n cnt' K' ((c:Int)::H0):=by
 refine⟨λa f g=>?_⟩;have q:=Ai (a:=a) hc h2 h4;rw[if_neg (show ¬1<=cnt c by omega),if_pos (show 1<=cnt' c by omega),h3] at q;have u:=h.eq a f g;have y:=hH a f g;rw[List.count_cons];by_cases e:a=c
 ·subst e;rw[if_pos (by simp),h1];omega
 ·rw[if_neg (by intro p;have:=eq_of_beq p;omega),h2 a g e];omega
theorem Qs.ref (h:Qs n cnt K H){c:Nat}{cnt':Nat->Nat}(hc:1<=cnt c)(h1:cnt' c=cnt c+1)(h2:∀b,b<n->b≠c->cnt' b=cnt b):Qs n cnt' K ((c:Int)::H):=by
 refine⟨λa f g=>?_⟩;have u:refs K n cnt' a=refs K n cnt a:=Ul λb q=>⟨by
  by_cases e:b=c
  ·subst e;omega
  ·rw[h2 b q e],λ_=>rfl⟩
 have y:=h.eq a f g;rw[List.count_cons,u];by_cases e:a=c
 ·subst e;rw[if_pos (by simp),h1];omega
 ·rw[if_neg (by intro p;have:=eq_of_beq p;omega),h2 a g e];omega
theorem Qs.Zf (h:Qs n cnt K H){c:Nat}{H0:List Int}{cnt':Nat->Nat}(hH:∀a:Nat,0<a->a<n->H.count (a:Int)=((c:Int)::H0).count (a:Int))(hc:2<=cnt c)(h1:cnt' c+1=cnt c)(h2:∀b,b<n->b≠c->cnt' b=cnt b):Qs n cnt' K H0:=by
 refine⟨λa f g=>?_⟩;have y:refs K n cnt' a=refs K n cnt a:=Ul λb u=>⟨by
  by_cases e:b=c
  ·subst e;omega
  ·rw[h2 b u e],λ_=>rfl⟩
 have D:=h.eq a f g;have p:=hH a f g;rw[List.count_cons] at p;rw[y];by_cases e:a=c
 ·subst e;rw[if_pos (by simp)] at p;omega
 ·rw[if_neg (by intro q;have:=eq_of_beq q;omega)] at p;rw[h2 a g e];omega
theorem Qs.last (h:Qs n cnt K H){c:Nat}{H0:List Int}{cnt':Nat->Nat}(hc0:0<c)(hcn:c<n)(hH:∀a:Nat,0<a->a<n->H.count (a:Int)=((c:Int)::H0).count (a:Int))(hc:cnt c=1)(h1:cnt' c=0)(h2:∀b,b<n->b≠c->cnt' b=cnt b):Qs n cnt' K (K c++H0):=by
 refine⟨λa f g=>?_⟩;have u:=Ai (a:=a) (K:=K) (K':=K) hcn h2 (λ_ _ _=>rfl);rw[if_pos (show 1<=cnt c by omega),if_neg (show ¬1<=cnt' c by omega)] at u;have y:=h.eq a f g;have p:=hH a f g;rw[List.count_cons] at p;rw[List.count_append];by_cases e:a=c
 ·subst e;rw[if_pos (by simp)] at p;omega
 ·rw[if_neg (by intro q;have:=eq_of_beq q;omega)] at p;rw[h2 a g e];omega
theorem Qs.set (h:Qs n cnt K H){c:Nat}{ks H0:List Int}{K':Nat->List Int}(hcn:c<n)(hc:1<=cnt c)(hH:∀a:Nat,0<a->a<n->H.count (a:Int)=ks.count (a:Int)+H0.count (a:Int))(h3:K' c=ks)(h4:∀b,b<n->b≠c->K' b=K b):Qs n cnt K' (K c++H0):=by
 refine⟨λa f g=>?_⟩;have p:=Ai (a:=a) (cnt:=cnt) (cnt':=cnt) hcn (λ_ _ _=>rfl) h4;rw[if_pos hc,if_pos hc,h3] at p;have q:=h.eq a f g;have u:=hH a f g;rw[List.count_append];omega
theorem Qs.named (h:Qs n cnt K H){b c:Nat}(hc0:0<c)(hcn:c<n)(hb:b<n)(h1:1<=cnt b)(hm:(c:Int)∈K b):1<=cnt c:=by
 have h2:=h.eq c hc0 hcn;have g:=Us (f:=λb=>if 1<=cnt b then (K b).count (c:Int) else 0) hb;have p:0<(K b).count (c:Int):=List.count_pos_iff.2 hm;rw[if_pos h1] at g;have e:refs K n cnt c=sumTo n λb=>if 1<=cnt b then (K b).count (c:Int) else 0:=rfl
 omega
theorem Qs.by_ (h:Qs n cnt K H){c:Nat}(hc0:0<c)(hcn:c<n)(h1:1<=cnt c):(c:Int)∈H\/∃b,b<n/\1<=cnt b/\(c:Int)∈K b:=by
 have h2:=h.eq c hc0 hcn;by_cases e:0<H.count (c:Int)
 ·exact .inl (List.count_pos_iff.1 e)
 ·obtain⟨b,q,g⟩:=Ql8 (f:=λb=>if 1<=cnt b then (K b).count (c:Int) else 0) (n:=n) (by
   have e:refs K n cnt c=sumTo n λb=>if 1<=cnt b then (K b).count (c:Int) else 0:=rfl
   omega)
  have g:0<(if 1<=cnt b then (K b).count (c:Int) else 0):=g;by_cases p:1<=cnt b
  ·rw[if_pos p] at g;exact .inr ⟨b,q,p,List.count_pos_iff.1 g⟩
  ·rw[if_neg p] at g
   cases g
theorem Qs.reached (h:Qs n cnt K H){B:Nat}(lev:Nat->Nat)(hlev:∀b a:Nat,b<n->1<=cnt b->(a:Int)∈K b->lev a<lev b)(hB:∀b,lev b<=B)(h0:cnt 0=0){S:Nat->Prop}(hS:∀a:Nat,0<a->a<n->(a:Int)∈H->S a)
  (hK:∀b a:Nat,0<b->b<n->0<a->a<n->1<=cnt b->S b->(a:Int)∈K b->S a):∀L a,B-lev a<=L->0<a->a<n->1<=cnt a->S a:=by
 intro L;induction L using Nat.strongRecOn with
 |ind L ih=>
  intro a F f u h1;rcases h.by_ f u h1 with h2|⟨b,y,g,q⟩
  ·exact hS a f u h2
  ·have D:=hlev b a y g q;have E:=hB b;have p:0<b:=by
    rcases Nat.eq_zero_or_pos b with e|e
    ·subst e;omega
    ·exact e
   exact hK b a p y f u g (ih (B-lev b) (by omega) b (Nat.le_refl _) p y g) q
end
theorem Gm {f:Nat->Nat}{k:Nat}:∀{n:Nat},(∀b,b<n->f b<=k)->sumTo n f<=k*n
 |0,_=>Nat.zero_le _
 |n+1,h=>by
  unfold sumTo;have h1:=Gm (n:=n) (f:=f) (k:=k) (λb g=>h b (by omega));have h2:=h n (by omega);rw[Nat.mul_succ];omega
theorem Dj {K:Nat->List Int}{most k:Nat}{out:Nat->Nat}(f:∀b,b<most->(K b).length<=k)(a:Nat):refs K most out a<=k*most:=
 Gm λb g=>by
  by_cases e:1<=out b
  ·rw[if_pos e];exact Nat.le_trans List.count_le_length (f b g)
  ·rw[if_neg e];exact Nat.zero_le _
