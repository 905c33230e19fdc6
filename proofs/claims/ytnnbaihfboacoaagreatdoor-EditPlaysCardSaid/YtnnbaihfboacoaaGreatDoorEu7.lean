/- The reference's Keys: a node's keys -/
import Derived.Test.YtnnbaihfboacoaaGreatDoorEu5
import Derived.Test.YtnnbaihfboacoaaGreatDoorEu6
namespace Go.Proofs.YtnnbaihfboacoaaGreatDoor
open Go Go.RowKit Go.Proofs
set_option maxHeartbeats 4000000
theorem Qgb:Em Tryz.prog 42 30 3 24 (.agg #[.int .i64 0,.int .i64 0,.int .i64 0]):=⟨Tryz.underlying42,by kernel_rfl,rfl,by omega⟩
def Nd.keys (N:Nd):List Kd:=N.items.map (·.k)++N.kids.map (·.k)
def NB (w:World)(b:Nat)(l:Int)(A:Option Addr)(n c:Nat)(B:Option Addr)(m d:Nat):Prop:=∃t,w.1[b]?=some (.cells #[.int .i64 l,.slice A n c,.slice B m d] t (0,0))
section
variable {w w':World}{b:Nat}{l:Int}{A B:Option Addr}{n c m d:Nat}
theorem NB.new (w:World)(l:Int)(A:Option Addr)(n c:Nat)(B:Option Addr)(m d:Nat)(t:TypeId):NB (w.alloc (.cells #[.int .i64 l,.slice A n c,.slice B m d] t)) w.1.size l A n c B m d:=⟨t,heap_alloc_new w _⟩
theorem NB.below (H:NB w b l A n c B m d){E:Nat}(hb:Below E w w')(hB:b<E):NB w' b l A n c B m d:=by
 obtain⟨t,H⟩:=H;exact⟨t,(hb.block b hB).trans H⟩
theorem NB.lt (H:NB w b l A n c B m d):b<w.1.size:=by
 obtain⟨t,H⟩:=H;exact (Array.getElem?_eq_some_iff.1 H).1
theorem NB.c0 (H:NB w b l A n c B m d):w.cell? ⟨b,0,none⟩=some (.int .i64 l):=by
 obtain⟨t,H⟩:=H;rw[cell_of_row _ _ _ _ _ _ H];rfl
theorem NB.c1 (H:NB w b l A n c B m d):w.cell? ⟨b,1,none⟩=some (.slice A n c):=by
 obtain⟨t,H⟩:=H;rw[cell_of_row _ _ _ _ _ _ H];rfl
theorem NB.c2 (H:NB w b l A n c B m d):w.cell? ⟨b,2,none⟩=some (.slice B m d):=by
 obtain⟨t,H⟩:=H;rw[cell_of_row _ _ _ _ _ _ H];rfl
end
theorem Qfy {w:World}{base:Nat}{A:Option Addr}{n c:Nat}{ks:List Kd}(h:Qs w base 30 3 A n c (ks.map kvs)):Ah w A n c ks:=h.Vs (by omega)
theorem Qex (w:World)(k:Kd):Jf (w.alloc (.cells #[.int .i64 k.obj,.int .i64 k.kind,.int .i64 k.off] 30)) 3 (some ⟨w.1.size,0,none⟩) 1 1 [kvs k]:=(q1q w 30 3 (kvs k) _ rfl rfl).Vs (by omega)
theorem Qfk (k:Kd):∀y∈[kvs k],∀u∈y,u.oneCell'=true:=by
 intro y f u e;obtain rfl:y=kvs k:=by simpa using f
 simp[kvs] at e;rcases e with rfl|rfl|rfl<;>rfl
def Qdp (N:Nd)(j:Nat):List (List Value):=(N.keys.take j).map kvs
theorem Qfc (N:Nd)(j:Nat)(h:N.keys.length<=j):Qdp N j=N.keys.map kvs:=by unfold Qdp;rw[List.take_of_length_le h]
theorem Qew (N:Nd)(j:Nat)(h:j<N.items.length):Qdp N (j+1)=Qdp N j++[kvs (Qj N.items j).k]:=by
 unfold Qdp;have e:j<N.keys.length:=by unfold Nd.keys;simp;omega
 rw[List.take_succ_eq_append_getElem e,List.map_append,List.map_cons,List.map_nil];congr 3
 have:N.keys[j]?=some (Qj N.items j).k:=by
  unfold Nd.keys;rw[List.getElem?_append_left (by simpa using h),List.getElem?_map,q11 h];rfl
 rw[List.getElem?_eq_getElem e] at this;simpa using this
theorem Qfd (N:Nd)(j:Nat)(h:j<N.kids.length):Qdp N (N.items.length+j+1)=Qdp N (N.items.length+j)++[kvs (Qg N.kids j).k]:=by
 unfold Qdp;have e:N.items.length+j<N.keys.length:=by unfold Nd.keys;simp;omega
 rw[List.take_succ_eq_append_getElem e,List.map_append,List.map_cons,List.map_nil];congr 3
 have:N.keys[N.items.length+j]?=some (Qg N.kids j).k:=by
  unfold Nd.keys;rw[List.getElem?_append_right (by simp),List.getElem?_map];simp[Rf h]
 rw[List.getElem?_eq_getElem e] at this;simpa using this
theorem Qd5 (N:Nd)(A:Option Addr)(n c:Nat)(B:Option Addr)(m d:Nat)(w:World)(hI:Zl w A n c N.items)(hK:Zm w B m d N.kids)(hn:n<=1000)(hm:m<=1000) :
  Calls Tryz.prog 120 #[.agg #[.int .i64 N.lvl,.slice A n c,.slice B m d]] w λe w'=>∃p W u,e=.returned (.slice p W u)/\W<=n+m/\Ah w' p W u N.keys/\Below w.1.size w w':=by
 have F:=Lib.hid hI.len;have O:=Lib.hid hK.len;have U:=Lib.hid (show N.keys.length=n+m by unfold Nd.keys;rw[List.length_append,List.length_map,List.length_map,F.out,O.out]);go_enter Tryz.func120,Tryz.ntmps120
 go_wp2_with fail
 have Z:NB (w.alloc (.cells #[.int .i64 N.lvl,.slice A n c,.slice B m d] 75)) w.1.size N.lvl A n c B m d:=NB.new w _ _ _ _ _ _ _ _;have b1:Below w.1.size w (w.alloc (.cells #[.int .i64 N.lvl,.slice A n c,.slice B m d] 75)):=Qm;have z1:=Z.lt;have N2:=Z.below ((Below.refl _ _).alloc (Nat.le_refl _) (.cells #[] 30)) z1;have Y:Below w.1.size w ((w.alloc (.cells #[.int .i64 N.lvl,.slice A n c,.slice B m d] 75)).alloc (.cells #[] 30)):=b1.trans ((Qm).mono b1.size);have o1:Qs ((w.alloc (.cells #[.int .i64 N.lvl,.slice A n c,.slice B m d] 75)).alloc (.cells #[] 30)) (w.1.size+1) 30 3 (some ⟨w.1.size+1,0,none⟩) 0 0 []:=by
  have:=qor (w.alloc (.cells #[.int .i64 N.lvl,.slice A n c,.slice B m d] 75)) 30 3;rwa [World.size_alloc] at this
 generalize (w.alloc (.cells #[.int .i64 N.lvl,.slice A n c,.slice B m d] 75)).alloc (.cells #[] 30)=Q at N2 Y o1 ⊢;go_loopw [3,4] (λl i wr=>∃(j:Nat) (p:Option Addr) (u:Nat),j<=n/\i=.int .i64 (j:Int)/\l=.slice p (j) u/\Qs wr (w.1.size+1) 30 3 p (j) u (Qdp N (j))/\NB wr w.1.size N.lvl A n c B m d/\Below w.1.size w wr) (λ_ i _=>n-(intOf i).toNat)
 case atStart=>exact⟨0,_,_,Nat.zero_le _,rfl,rfl,o1,N2,Y⟩
 case round=>
  obtain⟨j,p,u,hj,rfl,rfl,own,E,I⟩:=hrel;by_cases D:j<n
  ·obtain⟨g,o,B',m',d',T,hg,c0,c1,c2,_⟩:=(hI.below I).cell D;subst T;obtain⟨k,P⟩:∃k,(Qj N.items j).k=k:=⟨_,rfl⟩;rw[P] at c0 c1 c2;have X:=E.c1;have hz:=E.lt;have H:Below wr.1.size wr (wr.alloc (.cells #[.int .i64 (k).obj,.int .i64 (k).kind,.int .i64 (k).off] 30)):=Qm;go_wp2_with (first
    |(at_builtin;refine qa2 _ Qgb rfl _ _ rfl (w.1.size+1) p (j) u (Qdp N (j)) rfl (own.below H) (some ⟨wr.1.size,0,none⟩) 1 1 [kvs k] rfl (Qex wr k) (by omega) (Qfk k) (by omega) (by omega) (by have:=H.size;omega) ?_)
    |fail)
   intro A2 R Q f K;have y:Below (w.1.size+1) wr Q:=(H.mono (by omega)).trans K;have G:=E.below y (by omega);have J:=I.trans (y.mono (by omega));have M:=Qew N j (by rw[F.out];exact D);rw[P] at M;rw[<-M] at f;go_wp2;exact⟨⟨j+1,_,_,by omega,by go_num,rfl,f,G,J⟩,by simp[intOf];omega⟩
  ·obtain rfl:n=j:=by omega
   have X:=E.c1;go_wp2_with fail
   go_loopw [3,5] (λl i wr=>∃(j:Nat) (p:Option Addr) (u:Nat),j<=m/\i=.int .i64 (j:Int)/\l=.slice p (n+j) u/\Qs wr (w.1.size+1) 30 3 p (n+j) u (Qdp N (n+j))/\NB wr w.1.size N.lvl A n c B m d/\Below w.1.size w wr) (λ_ i _=>m-(intOf i).toNat)
   case atStart=>exact⟨0,_,_,Nat.zero_le _,rfl,rfl,own,E,I⟩
   case round=>
    obtain⟨j,p,u,hj,rfl,rfl,own,E,I⟩:=hrel;by_cases D:j<m
    ·obtain⟨g,o,T,hg,c0,c1,c2,_⟩:=(hK.below I).cell D;subst T;obtain⟨k,P⟩:∃k,(Qg N.kids j).k=k:=⟨_,rfl⟩;rw[P] at c0 c1 c2;have X:=E.c2;have hz:=E.lt;have H:Below wr.1.size wr (wr.alloc (.cells #[.int .i64 (k).obj,.int .i64 (k).kind,.int .i64 (k).off] 30)):=Qm;go_wp2_with (first
      |(at_builtin;refine qa2 _ Qgb rfl _ _ rfl (w.1.size+1) p (n+j) u (Qdp N (n+j)) rfl (own.below H) (some ⟨wr.1.size,0,none⟩) 1 1 [kvs k] rfl (Qex wr k) (by omega) (Qfk k) (by omega) (by omega) (by have:=H.size;omega) ?_)
      |fail)
     intro A2 R Q f K;have y:Below (w.1.size+1) wr Q:=(H.mono (by omega)).trans K;have G:=E.below y (by omega);have J:=I.trans (y.mono (by omega));have M:=Qfd N j (by rw[O.out];exact D);rw[P] at M;rw[F.out] at M;rw[<-M] at f;go_wp2;exact⟨⟨j+1,_,_,by omega,by go_num,rfl,f,G,J⟩,by simp[intOf];omega⟩
    ·obtain rfl:m=j:=by omega
     have X:=E.c2;rw[Qfc N (n+m) (by rw[U.out];omega)] at own;go_wp2;go_ret;exact⟨_,_,_,rfl,Nat.le_refl _,Qfy own,I⟩
theorem Rh (l:Int)(r:Bool)(h:decide (l=0)=r)(A:Option Addr)(n c:Nat)(B:Option Addr)(m d:Nat)(w:World) :
  Calls Tryz.prog 73 #[.agg #[.int .i64 l,.slice A n c,.slice B m d]] w λe w'=>e=.returned (.bool r)/\Below w.1.size w w':=by
 go_enter Tryz.func73,Tryz.ntmps73
 go_wp2;go_ret;refine⟨?_,Qm⟩;rw[<-h];first|rfl|(refine congrArg (λx=>Ending.returned (Value.bool x)) ?_;rw[Bool.eq_iff_iff];simp)
theorem q35 (x a b:Int)(r:Bool)(h:decide (a<=x/\x<=b)=r)(w:World) :
  Calls Tryz.prog 153 #[.int .i64 x,.int .i64 a,.int .i64 b] w λe w'=>e=.returned (.bool r)/\w=w':=by
 subst h;go_enter Tryz.func153,Tryz.ntmps153
 go_wp2;all_goals
  go_ret;refine⟨congrArg (λx=>Ending.returned (Value.bool x)) ?_,rfl⟩;first
   |exact (decide_eq_false (by omega)).symm
   |exact decide_eq_decide.2 (by omega)
   |(rw[Bool.eq_iff_iff];simp;omega)
theorem qmu (x:Int)(w:World) :
  Calls Tryz.prog 112 #[.int .i64 x] w λe w'=>e=.returned (.int .i64 (if x=0 then 3 else 4))/\w=w':=by
 by_cases h:x=0
 ·rw[if_pos h];go_enter Tryz.func112,Tryz.ntmps112
  go_wp2;go_ret;exact⟨rfl,rfl⟩
 ·rw[if_neg h];go_enter Tryz.func112,Tryz.ntmps112
  go_wp2;go_ret;exact⟨rfl,rfl⟩
theorem q4c (x k:Int)(h:(if x=0 then 3 else 4)=k)(w:World) :
  Calls Tryz.prog 112 #[.int .i64 x] w λe w'=>e=.returned (.int .i64 k)/\w=w':=by
 subst h;exact qmu x w
theorem q2j (k:Kd)(B:Option Addr)(m d:Nat)(w:World) :
  Calls Tryz.prog 75 #[.agg #[.int .i64 k.obj,.int .i64 k.kind,.int .i64 k.off,.slice B m d]] w λe w'=>e=.returned (.agg #[.int .i64 k.obj,.int .i64 k.kind,.int .i64 k.off])/\Below w.1.size w w':=by
 go_enter Tryz.func75,Tryz.ntmps75
 go_wp2;refine bodyPost_ret (Og Tryz.results75 rfl (q34 (KB.new2 w _ k.obj k.kind k.off _))) rfl ?_;exact⟨rfl,(Qm).alloc (by simp) _⟩
theorem q2k (k:Kd)(a:Int)(w:World) :
  Calls Tryz.prog 78 #[.agg #[.int .i64 k.obj,.int .i64 k.kind,.int .i64 k.off,.int .i64 a]] w λe w'=>e=.returned (.agg #[.int .i64 k.obj,.int .i64 k.kind,.int .i64 k.off])/\Below w.1.size w w':=by
 go_enter Tryz.func78,Tryz.ntmps78
 go_wp2;refine bodyPost_ret (Og Tryz.results78 rfl (q34 (KB.new2 w _ k.obj k.kind k.off _))) rfl ?_;exact⟨rfl,(Qm).alloc (by simp) _⟩
theorem qb0 (k:Kd)(B:Option Addr)(m d:Nat)(r:Bool)(h:decide (m<=28)=r)(w:World) :
  Calls Tryz.prog 152 #[.agg #[.int .i64 k.obj,.int .i64 k.kind,.int .i64 k.off,.slice B m d]] w λe w'=>e=.returned (.bool r)/\Below w.1.size w w':=by
 go_enter Tryz.func152,Tryz.ntmps152
 go_wp2;go_ret;refine⟨?_,Qm⟩;rw[<-h];exact congrArg (λx=>Ending.returned (Value.bool x)) (decide_eq_decide.2 (by omega))
theorem qb1 (k:Kd)(a:Int)(r:Bool)(h:decide (1<=a/\a<=2047)=r)(w:World) :
  Calls Tryz.prog 155 #[.agg #[.int .i64 k.obj,.int .i64 k.kind,.int .i64 k.off,.int .i64 a]] w λe w'=>e=.returned (.bool r)/\Below w.1.size w w':=by
 go_enter Tryz.func155,Tryz.ntmps155
 go_wp2_with fail
 refine (q35 a 1 2047 r h _).mono ?_;rintro e f ⟨rfl,rfl⟩;go_wp2;go_ret;exact⟨rfl,Qm⟩
theorem NB.range {w:World}{b:Nat}{l:Int}{A B:Option Addr}{n c m d:Nat}(H:NB w b l A n c B m d):w.rangeAt b 0 [.int .i64 l,.slice A n c,.slice B m d]:=λj v e=>by
 obtain⟨t,H⟩:=H;rw[cell_of_row _ _ _ _ _ _ H,Nat.zero_add];simpa using e
theorem Ii {w:World}{b:Nat}{l:Int}{A B:Option Addr}{n c m d:Nat}(H:NB w b l A n c B m d):(loadVar 75 ⟨b,0,none⟩).run Tryz.prog w=.ok (.agg #[.int .i64 l,.slice A n c,.slice B m d]) w:=
 run_loadVar_mid w b 0 75 _ _ H.range Tryz.underlying75 rfl (by kernel_rfl)
theorem NB.new2 (w:World)(o:Obj)(l:Int)(A:Option Addr)(n c:Nat)(B:Option Addr)(m d:Nat)(t:TypeId):NB ((w.alloc o).alloc (.cells #[.int .i64 l,.slice A n c,.slice B m d] t)) (w.1.size+1) l A n c B m d:=by
 have:=NB.new (w.alloc o) l A n c B m d t;rwa [World.size_alloc] at this
theorem Ad:Em Tryz.prog 26 68 4 48 (.agg #[.int .i64 0,.int .i64 0,.int .i64 0,.slice none 0 0]):=⟨Tryz.underlying26,by kernel_rfl,rfl,by omega⟩
theorem Qak:Em Tryz.prog 73 81 4 32 (.agg #[.int .i64 0,.int .i64 0,.int .i64 0,.int .i64 0]):=⟨Tryz.underlying73,by kernel_rfl,rfl,by omega⟩
theorem Sl.turned' {w w':World}{A:Option Addr}{n c:Nat}{l:List UInt8}(h:Sl w A n c l){S:Nat->Prop}(T:Turn S w w')(hA:l≠[]->∀k,q01 A=some k->¬S k):Sl w' A n c l:=by
 by_cases e:l=[]
 ·subst e;exact⟨h.1,h.2.1,h.2.2.1,λj u f=>by simp at f⟩
 ·exact h.turned T (hA e)
theorem Sl.Qa {w:World}{A:Option Addr}{n c:Nat}{l:List UInt8}(h:Sl w A n c l)(hl:l≠[]):∀k,q01 A=some k->k<w.1.size:=by
 intro k u;have hn:0<n:=by have:=h.len;have:l.length≠0:=λe=>hl (List.eq_nil_of_length_eq_zero e);omega
 obtain⟨f,rfl,p,_⟩:=h.cell hn;obtain rfl:f.block=k:=Option.some.inj u;exact p
def Yi (k:Kd)(V:Option Addr)(p q:Nat):List Value:=[.int .i64 k.obj,.int .i64 k.kind,.int .i64 k.off,.slice V p q]
def J4 (w:World)(base:Nat)(A:Option Addr)(n c:Nat)(xs:List Qc):Prop:=
 ∃e,Qs w base 68 4 A n c e/\e.length=xs.length/\∀(j:Nat) r x,e[j]?=some r->xs[j]?=some x->∃V p q,r=Yi x.k V p q/\Sl w V p q x.v/\(x.v≠[]->∀g,q01 V=some g->base<=g/\q01 A≠some g)
section
variable {w w':World}{base n c:Nat}{A:Option Addr}{xs:List Qc}
theorem O8 (w:World)(base:Nat):J4 w base none 0 0 []:=⟨[],q10 _ _ _ _,rfl,λj r x e=>by simp at e⟩
theorem J4.below (h:J4 w base A n c xs)(hb:Below w.1.size w w'):J4 w' base A n c xs:=by
 obtain⟨u,h1,h2,y⟩:=h;refine⟨u,h1.below hb,h2,λj r x D F=>?_⟩;obtain⟨V,p,q,e,E,f⟩:=y j r x D F;exact⟨V,p,q,e,E.below hb,f⟩
theorem J4.Zq (h:J4 w base A n c xs):Zl w A n c xs:=by
 obtain⟨f,h1,h2,u⟩:=h;refine⟨f,h1.Vs (by omega),h2,λj r x y E=>?_⟩;obtain⟨V,p,q,e,D,_⟩:=u j r x y E;exact⟨V,p,q,e,D⟩
theorem J4.Qa (h:J4 w base A n c xs):∀k,q01 A=some k->base<=k/\k<w.1.size:=by
 obtain⟨e,h1,_⟩:=h;exact h1.Qa
theorem J4.low (h:J4 w base A n c xs){S:Nat->Prop}(T:Turn S w w')(hS:∀k,S k->k<base):J4 w' base A n c xs:=by
 obtain⟨y,h1,h2,D⟩:=h;refine⟨y,h1.turned T (λk u e=>by have:=(h1.Qa k u).1;have:=hS k e;omega),h2,λj r x F H=>?_⟩;obtain⟨V,p,q,e,G,f⟩:=D j r x F H;exact⟨V,p,q,e,G.turned' T (λE k u e=>by have:=(f E k u).1;have:=hS k e;omega),f⟩
end
theorem q91 (k:Kd)(V:Option Addr)(p q:Nat):∀y∈[Yi k V p q],∀u∈y,u.oneCell'=true:=by
 intro y f u e;obtain rfl:y=Yi k V p q:=by simpa using f
 simp[Yi] at e;rcases e with rfl|rfl|rfl|rfl<;>rfl
theorem q60 {w:World}{ops:Array Oper}{D:List Oper}{o:Oper}{a:Act}{Q:Exit->Act->World->Prop}(X:o.guard=none)(so x:Operand)
  (ho:o.op=.call { callee:=.builtin .append,args:=#[so,x],argTypes:=#[26,26] })
  (base:Nat) (A:Option Addr) (n c:Nat) (xs:List Qc) (R:a.eval so=.slice A n c) (M:J4 w base A n c xs)
  (B:Option Addr) (d:Nat) (y:Qc) (V:Option Addr) (p q:Nat) (G:a.eval x=.slice B 1 d) (u:Jf w 4 B 1 d [Yi y.k V p q]) (hv:Sl w V p q y.v) (Z:y.v≠[]->∀g,q01 V=some g->base<=g/\q01 A≠some g) (hn:n<=100000) (F:base<=w.1.size)
  (h:∀E P w',J4 w' base E (n+1) P (xs++[y])->Turn (λk=>q01 A=some k) w w'->(q01 E=q01 A\/q01 E=some w.1.size)->wpList Tryz.prog ops Q D (a.put o.dst (.slice E (n+1) P)) w'):wpList Tryz.prog ops Q (o::D) a w:=by
 obtain⟨H,h1,h2,h3⟩:=M;refine qa4 w Ad X so x ho base A n c H R h1 B 1 d [Yi y.k V p q] G u (by omega) (q91 _ _ _ _) (by omega) (by omega) F ?_;intro E P w' O T I _;refine h E P w' ⟨_,O,by simp[h2],λj r x u G=>?_⟩ T I;have old:∀(V:Option Addr) (p q:Nat) (v:List UInt8),Sl w V p q v->(v≠[]->∀g,q01 V=some g->base<=g/\q01 A≠some g)->Sl w' V p q v/\(v≠[]->∀g,q01 V=some g->base<=g/\q01 E≠some g):=by
  intro V p q v R f;refine⟨R.turned' T (λK k hk e=>(f K k hk).2 e),λK g W=>⟨(f K g W).1,λe=>?_⟩⟩;rcases I with U|U
  ·exact (f K g W).2 (U.symm.trans e)
  ·have:=R.Qa K g W;rw[U] at e;have:=Option.some.inj e;omega
 by_cases hj:j<H.length
 ·rw[List.getElem?_append_left hj] at u;rw[List.getElem?_append_left (by omega)] at G;obtain⟨V',p',q',e,Y,f⟩:=h3 j r x u G;obtain⟨o1,o2⟩:=old V' p' q' x.v Y f;exact⟨V',p',q',e,o1,o2⟩
 ·rw[List.getElem?_append_right (by omega)] at u G;have J:j-H.length=0:=by
   have:=(List.getElem?_eq_some_iff.1 u).1;simp at this;omega
  rw[J] at u;rw[<-h2,J] at G;obtain rfl:Yi y.k V p q=r:=by simpa using u
  obtain rfl:y=x:=by simpa using G
  obtain⟨o1,o2⟩:=old V p q y.v hv Z;exact⟨V,p,q,rfl,o1,o2⟩
def Nd.least (N:Nd):Kd:=if N.keys.length=0 then ⟨0,0,0⟩ else keyAt N.keys 0
def lead (ks:List Kd)(k:Kd):Nat:=(ks.takeWhile λx=>x.less k).length
def lastTo (ks:List Kd)(k:Kd):Nat->Nat
 |0=>0
 |j+1=>if k.less (keyAt ks j)=true then lastTo ks k j else j
def Vb (ks:List Kd)(k:Kd)(i:Nat):Bool:=decide (i<ks.length)&&(keyAt ks i).same k
def Nd.Za (N:Nd)(k:Kd):Nat:=if N.lvl=0 then lead N.keys k else lastTo N.keys k N.keys.length
theorem qb2 (ks:List Kd)(k:Kd):lead ks k<=ks.length:=by
 unfold lead;induction ks with
 |nil=>simp
 |cons x ks ih=>rw[List.takeWhile_cons];split<;>simp<;>omega
theorem qih:∀(e:List Kd) (k:Kd) (j:Nat),(∀q,q<j->(keyAt e q).less k=true)->j<=e.length->(j=e.length\/(keyAt e j).less k=false)->lead e k=j
 |[],k,j,_,h2,_=>by simp at h2;subst h2;rfl
 |x::e,k,0,_,_,h3=>by
  rcases h3 with h|h
  ·simp at h
  ·have h:x.less k=false:=h;unfold lead;rw[List.takeWhile_cons,h];rfl
 |x::e,k,j+1,h1,h2,h3=>by
  have h0:x.less k=true:=h1 0 (by omega);have:=qih e k j (λq f=>h1 (q+1) (by omega)) (by simpa using h2) (by
   rcases h3 with h|h
   ·left;simpa using h
   ·right;exact h)
  unfold lead at this ⊢;rw[List.takeWhile_cons,h0];simpa using this
theorem q75 (ks:List Kd)(k:Kd)(j:Nat):lastTo ks k j=0\/lastTo ks k j<j:=by
 induction j with
 |zero=>left;rfl
 |succ j ih=>unfold lastTo;split<;>omega
theorem q5s (ks:List Kd)(k:Kd):∀j,0<lastTo ks k j->k.less (keyAt ks (lastTo ks k j))=false
 |0,h=>by cases h
 |j+1,h=>by
  unfold lastTo at h ⊢;by_cases e:k.less (keyAt ks j)=true
  ·rw[if_pos e] at h ⊢;exact q5s ks k j h
  ·rw[if_neg e];simpa using e
theorem q53 (ks:List Kd)(k:Kd):∀j q,lastTo ks k j<q->q<j->k.less (keyAt ks q)=true
 |0,q,_,h=>by cases h
 |j+1,q,h,hq=>by
  unfold lastTo at h;by_cases e:k.less (keyAt ks j)=true
  ·rw[if_pos e] at h;rcases (by omega:q<j\/q=j) with h1|rfl
   ·exact q53 ks k j q h h1
   ·exact e
  ·rw[if_neg e] at h;omega
theorem q6b:∀(e:List Kd) (k:Kd) (q:Nat),q<lead e k->(keyAt e q).less k=true
 |[],k,q,h=>by cases h
 |x::e,k,q,h=>by
  unfold lead at h;rw[List.takeWhile_cons] at h;by_cases f:x.less k=true
  ·rw[if_pos f] at h;match q with
   |0=>exact f
   |q+1=>exact q6b e k q (by unfold lead;simpa using h)
  ·rw[if_neg f] at h
   cases h
theorem qb3:∀(e:List Kd) (k:Kd),lead e k<e.length->(keyAt e (lead e k)).less k=false
 |[],k,h=>by cases h
 |x::e,k,h=>by
  unfold lead at h ⊢;rw[List.takeWhile_cons] at h ⊢;by_cases f:x.less k=true
  ·rw[if_pos f] at h ⊢;exact qb3 e k (by unfold lead;simpa using h)
  ·rw[if_neg f];show x.less k=false;simpa using f
def Qd (its:List Qc):Prop:=its.Pairwise λx y=>x.k.less y.k=true
def Qp (R:Int->Nd × Int):Nat->Int->List Qc->Prop
 |0,a,its=>R a=(⟨0,its,[]⟩,0)/\its≠[]
 |l+1,a,its=>∃(kids:List Ql) (parts:List (List Qc)),R a=(⟨((l+1:Nat):Int),[],kids⟩,0)/\kids≠[]/\parts.length=kids.length/\its=parts.flatten/\∀j,j<kids.length->Qp R l (Qg kids j).a (parts.getD j [])/\∃x r,parts.getD j []=x::r/\(Qg kids j).k=x.k
def valOf (its:List Qc)(k:Kd):Option (List UInt8):=(its.find? λx=>x.k.same k).map (·.v)
theorem q6j {a b k:Kd}(h:b.same k=true):a.less k=a.less b:=by
 rw[Kd.same_iff] at h;obtain⟨h1,h2,e⟩:=h;unfold Kd.less;rw[h1,h2,e]
theorem q4m {a b k:Kd}(h:b.same k=true):k.less a=b.less a:=by
 rw[Kd.same_iff] at h;obtain⟨h1,h2,e⟩:=h;unfold Kd.less;rw[h1,h2,e]
theorem q6k {a b:Kd}(h:a.less b=true):b.less a=false:=by
 rcases Kd.total a b with⟨_,h2,_⟩|⟨h1,_,_⟩|⟨h1,_,_⟩
 ·exact h2
 ·rw[h] at h1;cases h1
 ·rw[h] at h1;cases h1
theorem q38 (a:Kd):a.less a=false:=by
 rcases Kd.total a a with⟨h1,h2,e⟩|⟨_,_,e⟩|⟨h1,_,_⟩
 ·exact absurd rfl e
 ·exact absurd rfl e
 ·exact h1
theorem qc5 {a b c:Kd}(h1:a.less b=true)(h2:c.less b=false):a.less c=true:=by
 rcases Kd.total b c with⟨e,_,_⟩|⟨_,e,_⟩|⟨_,_,rfl⟩
 ·exact Kd.trans a b c h1 e
 ·rw[h2] at e;cases e
 ·exact h1
theorem getD_cons_zero {α:Type}(x:α)(l:List α)(d:α):(x::l).getD 0 d=x:=rfl
theorem getD_cons_succ {α:Type}(x:α)(l:List α)(d:α)(j:Nat):(x::l).getD (j+1) d=l.getD j d:=by
 rw[List.getD_eq_getElem?_getD,List.getD_eq_getElem?_getD,List.getElem?_cons_succ]
theorem q8h {α:Type}(p:α->Bool):∀(parts:List (List α)) (j:Nat),j<parts.length->(∀q,q<parts.length->q≠j->∀x∈parts.getD q [],p x=false)->parts.flatten.find? p=(parts.getD j []).find? p
 |[],j,hj,_=>absurd hj (Nat.not_lt_zero _)
 |x::parts,0,_,h=>by
  rw[List.flatten_cons,List.find?_append,getD_cons_zero];have h0:parts.flatten.find? p=none:=by
   rw[List.find?_eq_none];intro y f;obtain⟨l,E,u⟩:=List.mem_flatten.1 f;obtain⟨q,D,e⟩:=List.getElem_of_mem E;have:=h (q+1) (by rw[List.length_cons];omega) (by omega) y (by rw[getD_cons_succ,List.getD_eq_getElem?_getD,List.getElem?_eq_getElem D,e];exact u);simpa using this
  rw[h0,Option.or_none]
 |x::parts,j+1,hj,h=>by
  rw[List.flatten_cons,List.find?_append,getD_cons_succ];have h0:x.find? p=none:=by
   rw[List.find?_eq_none];intro y f;have:=h 0 (by rw[List.length_cons];omega) (by omega) y f;simpa using this
  rw[h0,Option.none_or];refine q8h p parts j (by simpa using hj) λq D F y f=>?_
  exact h (q+1) (by rw[List.length_cons];omega) (by omega) y (by rw[getD_cons_succ];exact f)
theorem q5c {parts:List (List Qc)}(h:Qd parts.flatten){i j:Nat}(e:i<j)(f:j<parts.length){x y:Qc}(p:x∈parts.getD i [])(u:y∈parts.getD j []):x.k.less y.k=true:=by
 unfold Qd at h;rw[List.pairwise_flatten] at h;have h2:=List.pairwise_iff_getElem.1 h.2 i j (by omega) f e;rw[List.getD_eq_getElem?_getD,List.getElem?_eq_getElem (by omega)] at p;rw[List.getD_eq_getElem?_getD,List.getElem?_eq_getElem f] at u;exact h2 x p y u
theorem q3j {parts:List (List Qc)}(h:Qd parts.flatten)(j:Nat):Qd (parts.getD j []):=by
 unfold Qd at h ⊢;rw[List.pairwise_flatten] at h;rw[List.getD_eq_getElem?_getD];by_cases e:j<parts.length
 ·rw[List.getElem?_eq_getElem e];exact h.1 _ (List.getElem_mem e)
 ·rw[List.getElem?_eq_none (by omega)];exact List.Pairwise.nil
theorem q4n (l:Int)(kids:List Ql):(⟨l,[],kids⟩:Nd).keys=kids.map (·.k):=rfl
theorem q1u (its:List Qc):(⟨0,its,[]⟩:Nd).keys=its.map (·.k):=by unfold Nd.keys;simp
theorem q4o (kids:List Ql){j:Nat}(e:j<kids.length):keyAt (kids.map (·.k)) j=(Qg kids j).k:=by
 unfold keyAt Qg;rw[List.getD_eq_getElem?_getD,List.getD_eq_getElem?_getD,List.getElem?_map,List.getElem?_eq_getElem e];rfl
theorem q18 (its:List Qc){j:Nat}(e:j<its.length):keyAt (its.map (·.k)) j=(Qj its j).k:=by
 unfold keyAt Qj;rw[List.getD_eq_getElem?_getD,List.getD_eq_getElem?_getD,List.getElem?_map,List.getElem?_eq_getElem e];rfl
theorem qsk {R:Int->Nd × Int}{l:Nat}{a:Int}{its:List Qc}(h:Qp R (l+1) a its)(J:Qd its)(k:Kd) :
  ∃(kids:List Ql) (part:List Qc),R a=(⟨((l+1:Nat):Int),[],kids⟩,0)/\(⟨((l+1:Nat):Int),[],kids⟩:Nd).Za k<kids.length/\Qp R l (Qg kids ((⟨((l+1:Nat):Int),[],kids⟩:Nd).Za k)).a part/\Qd part/\valOf its k=valOf part k:=by
 obtain⟨kids,parts,h1,h2,Y,rfl,D⟩:=h;have O:(⟨((l+1:Nat):Int),[],kids⟩:Nd).Za k=lastTo (kids.map (·.k)) k kids.length:=by
  unfold Nd.Za;have:¬((l+1:Nat):Int)=0:=by omega
  dsimp only;rw[if_neg this,q4n,List.length_map]
 obtain⟨j,G⟩:∃j,lastTo (kids.map (·.k)) k kids.length=j:=⟨_,rfl⟩;have Z:0<kids.length:=List.length_pos_iff.2 h2;have f:j<kids.length:=by
  rcases q75 (kids.map (·.k)) k kids.length with e|e<;>omega
 refine⟨kids,parts.getD j [],h1,by rw[O,G];exact f,by rw[O,G];exact (D j f).1,q3j J j,?_⟩;unfold valOf;rw[q8h _ parts j (by omega) λq hq I x p=>?_];obtain⟨_,y,r,K,P⟩:=D q (by omega);rcases Nat.lt_or_gt_of_ne I with H|X
 ·-- ahead of the kid's key,that is not behind k
  obtain⟨_,z,s,Q,T⟩:=D j f;have U:x.k.less z.k=true:=q5c J H (by omega) p (by rw[Q];exact List.mem_cons_self ..);have E:k.less z.k=false:=by
   have:=q5s (kids.map (·.k)) k kids.length (by omega);rw[G,q4o kids f,T] at this;exact this
  cases F:x.k.same k with
  |false=>rfl
  |true=>
   have:=q4m (a:=z.k) F;rw[E,U] at this
   cases this
 ·have E:k.less y.k=true:=by
   have:=q53 (kids.map (·.k)) k kids.length q (by omega) (by omega);rw[q4o kids (by omega),P] at this;exact this
  cases F:x.k.same k with
  |false=>rfl
  |true=>
   have u:x.k.less y.k=true:=by rw[<-q4m F];exact E
   rw[K] at p;rcases List.mem_cons.1 p with rfl|p
   ·rw[q38] at u;cases u
   ·have M:=q3j J q;rw[K] at M;have W:=(List.pairwise_cons.1 M).1 x p;rw[q6k W] at u;cases u
theorem qjg {its:List Qc}(M:Qd its)(k:Kd):valOf its k=if Vb (its.map (·.k)) k (lead (its.map (·.k)) k)=true then some (Qj its (lead (its.map (·.k)) k)).v else none:=by
 obtain⟨j,E⟩:∃j,lead (its.map (·.k)) k=j:=⟨_,rfl⟩;have K:j<=its.length:=by have:=qb2 (its.map (·.k)) k;rw[List.length_map] at this;omega
 rw[E];have J:∀q,q<j->(Qj its q).k.less k=true:=λq u=>by
  have:=q6b (its.map (·.k)) k q (by omega);rwa [q18 its (by omega)] at this
 have f:∀q (u:q<its.length),q≠j\/(Qj its j).k.same k=false->(its[q]).k.same k=false:=λq u F=>by
  have e:Qj its q=its[q]:=by unfold Qj;rw[List.getD_eq_getElem?_getD,List.getElem?_eq_getElem u];rfl
  cases y:(its[q]).k.same k with
  |false=>rfl
  |true=>
   rcases Nat.lt_trichotomy q j with h1|h1|h1
   ·have h2:=J q h1;rw[e,q6j y,q38] at h2
    cases h2
   ·subst h1;rcases F with h2|h2
    ·exact absurd rfl h2
    ·rw[e,y] at h2;cases h2
   ·have H:(Qj its j).k.less k=false:=by
     have:=qb3 (its.map (·.k)) k (by rw[E,List.length_map];omega);rwa [E,q18 its (by omega)] at this
    have I:=List.pairwise_iff_getElem.1 M j q (by omega) u h1;have D:Qj its j=its[j]'(by omega):=by unfold Qj;rw[List.getD_eq_getElem?_getD,List.getElem?_eq_getElem (by omega)];rfl
    rw[D,q6j y,I] at H
    cases H
 unfold valOf Vb;rw[List.length_map];by_cases p:j<its.length
 ·rw[decide_eq_true p,Bool.true_and,q18 its p];have D:Qj its j=its[j]:=by unfold Qj;rw[List.getD_eq_getElem?_getD,List.getElem?_eq_getElem p];rfl
  cases y:(Qj its j).k.same k with
  |true=>
   rw[if_pos rfl];have:its.find? (λx=>x.k.same k)=some its[j]:=by
    rw[List.find?_eq_some_iff_getElem];refine⟨by rw[<-D];exact y,j,p,rfl,λq u=>?_⟩;rw[f q (by omega) (.inl (by omega))];rfl
   rw[this,D];rfl
  |false=>
   have:its.find? (λx=>x.k.same k)=none:=by
    rw[List.find?_eq_none];intro x G;obtain⟨q,u,e⟩:=List.getElem_of_mem G;rw[<-e,f q u (.inr y)];simp
   rw[this];rfl
 ·rw[decide_eq_false p,Bool.false_and];have:its.find? (λx=>x.k.same k)=none:=by
   rw[List.find?_eq_none];intro x G;obtain⟨q,u,e⟩:=List.getElem_of_mem G;rw[<-e,f q u (.inl (by omega))];simp
  rw[this];rfl
theorem qu4 (x y:Operand)(xs ys:Array Value)(w:World):(eqGuard .neq 30 x y (.agg xs) (.agg ys)).run Tryz.prog w=.ok () w:=
 run_eqGuard_agg w .neq 30 x y xs ys (by kernel_rfl)
theorem qu5 (a:Kd)(w:World)(d:Nat):(Op.equalIn (d+2) 30 (.agg #[.int .i64 a.obj,.int .i64 a.kind,.int .i64 a.off]) (.agg #[.int .i64 a.obj,.int .i64 a.kind,.int .i64 a.off])).run Tryz.prog w=.ok true w:=by
 rw[run_equalIn_agg w (d+1) 30 _ _ (by kernel_rfl) (by kernel_rfl)];unfold Program.fieldsOf;rw[Tryz.underlying30];simp[go_sem,Tryz.underlying3]
theorem qy4 (a:Kd)(w:World):(binOp .neq 30 (.agg #[.int .i64 a.obj,.int .i64 a.kind,.int .i64 a.off]) (.agg #[.int .i64 a.obj,.int .i64 a.kind,.int .i64 a.off])).run Tryz.prog w=.ok (.bool false) w:=by
 rw[run_neq_struct,qu5 a w 9998];rfl
