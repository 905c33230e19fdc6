/- Crash: each sector with cached writes is settled as what is kept tells, from the first on -/
import Derived.Test.YthkfkhejjmhomaaGreatDoorDb14
import Derived.Test.YthkfkhejjmhomaaGreatDoorDb19
namespace Go.Proofs.YthkfkhejjmhomaaGreatDoor
open Go Go.RowKit Go.Proofs
set_option maxHeartbeats 2000000
set_option maxRecDepth 100000
section
open Go.ChangeMaps (setBlock)
def Ints (w:World)(A:Option Addr)(n c:Nat)(zs:List Int):Prop:=Holds w w.1.size A n c (zs.map (Value.int .i64))/\∀z∈zs,-9223372036854775808<=z/\z<=9223372036854775807
section
variable {w w':World}{A:Option Addr}{n c:Nat}{zs:List Int}{S:Nat->Prop}
theorem Ints.len (h:Ints w A n c zs):zs.length=n:=by simpa using h.1.1
theorem Ints.cap (h:Ints w A n c zs):n<=c:=h.1.2.1
theorem Ints.max (h:Ints w A n c zs):c<=maxLen:=h.1.2.2.1
theorem Ints.turn (h:Ints w A n c zs)(t:Turn S w w')(ho:∀d,A=some d->¬S d.block):Ints w' A n c zs:=
 ⟨⟨h.1.1,h.1.2.1,h.1.2.2.1,λj u p=>by
  obtain⟨d,e,f,m⟩:=h.1.2.2.2 j u p;refine⟨d,e,by have:=t.size;omega,?_⟩;exact (World.cell?_of_block (w:=w) (w':=w') (a:=d.add j) (by rw[Ls];exact t.block _ f (ho d e))).trans m⟩,h.2⟩
theorem Ints.range (h:Ints w A n c zs):-9223372036854775808<=zs.headD 0/\zs.headD 0<=9223372036854775807:=by
 rcases zs with _|⟨z,r⟩
 ·simp
 ·exact h.2 z (by simp)
end
end
section
open Go.ChangeMaps (setBlock)
def DM.flush (D:DM):DM:={ D with Xc:=D.newest,Zm:=λ_=>[] }
def DM.Y9 (D:DM):DM:=if D.stop then D.stepD else D.stepD.flush
structure Fl (D D':DM):Prop where
 n:D'.n=D.n
 off:D'.off=D.off
 fused:D'.fused=D.fused
 left:D'.left=D.left
 steps:D'.steps=D.steps
 cap:D'.cap=D.cap
 at_:∀s,(D'.Zm s=D.Zm s/\D'.Xc s=D.Xc s)\/(D'.Zm s=[]/\D'.Xc s=D.newest s)
theorem Fl.refl (D:DM):Fl D D:=⟨rfl,rfl,rfl,rfl,rfl,rfl,λ_=>.inl ⟨rfl,rfl⟩⟩
theorem qo8 {α:Type}(l:List α)(a d:α)(h:l≠[]):l.getD (l.length-1) d=l.getLastD a:=by
 have h0:0<l.length:=List.length_pos_iff.2 h;rw[List.getD_eq_getElem?_getD,List.getElem?_eq_getElem (by omega),List.getLastD_eq_getLast?,List.getLast?_eq_some_getLast h,List.getLast_eq_getElem];rfl
theorem Fl.settle {D D':DM}(h:Fl D D')(s:Nat)(hs:D'.Zm s≠[]):Fl D (D'.settle s (D'.Zm s).length):=by
 have h0:(D'.Zm s).length≠0:=λe=>hs (List.eq_nil_of_length_eq_zero e)
 refine⟨h.n,h.off,h.fused,h.left,h.steps,h.cap,λz=>?_⟩;have hd:(D'.settle s (D'.Zm s).length).Xc=upd D'.Xc s ((D'.Zm s).getD ((D'.Zm s).length-1) []):=by unfold DM.settle;rw[if_neg h0]
 by_cases d:z=s
 ·right
  subst d;refine⟨Bd _ _ _,?_⟩;rw[hd,Bd];rcases h.at_ z with⟨h1,h2⟩|⟨h1,_⟩
  ·rw[qo8 _ (D'.Xc z) _ hs,h1,h2];rfl
  ·exact absurd h1 hs
 ·rw[hd];show (upd D'.Zm s [] z=D.Zm z/\upd D'.Xc s _ z=D.Xc z)\/(upd D'.Zm s [] z=[]/\upd D'.Xc s _ z=D.newest z);rw[Au _ _ d,Au _ _ d];exact h.at_ z
theorem Fl.done {D D':DM}(h:Fl D D')(hc:∀s,D'.Zm s=[]):D'=D.flush:=by
 obtain⟨n,Xc,Zm,off,fused,left,steps,cap⟩:=D';obtain⟨h1,h2,f,m,p,y,u⟩:=h;simp only at h1 h2 f m p u y hc;subst h1 h2 f m p y;have d:Zm=λ_=>[]:=funext hc
 have e:Xc=D.newest:=funext λs=>by
  rcases u s with⟨a,b⟩|⟨_,b⟩
  ·rw[b];unfold DM.newest;rw[<-a,hc s];rfl
  ·exact b
 subst d e;rfl
theorem Lay.tight {w:World}{bp bd bm clock:Nat}{l:List MapEntry}{v:Nat->Value}{S:Nat->Prop}{D:DM}(L:Lay w bp bd bm l clock v S D):Lay w bp bd bm l clock v (λk=>S k/\k<w.1.size) D:=L.mono λ_ h1 h2=>⟨h2,h1⟩
def q9u (w:World)(b:Nat):Nat:=match w.1[b]? with|some (.map es _)=>es.size|_=>0
theorem qbn {w:World}{b clock:Nat}{l:List MapEntry}(h:w.1[b]?=some (.map l.toArray clock)):q9u w b=l.length:=by unfold q9u;rw[h];simp
theorem qo9 {w:World}{bp:Nat}{S:Nat->Prop}{D:DM}(L0:Wu w bp S D)(b5:D.steps<=1000000000)(_:∀k,(D.Zm k).length<=1000000) :
  Calls Tryz.prog 135 #[.pointer (some ⟨bp,0,none⟩)] w λe w'=>e=.returned (.int .i64 D.err)/\Wu w' bp S D.Y9/\Turn S w w':=by
 obtain⟨bd,bm,l,clock,v,L⟩:=L0;have Q:=qjo L b5;have b1:∀k,k=bp->S k:=λk e=>e▸L.Yn.1
 unfold DM.Y9;unfold DM.err at Q ⊢
 cases y:D.stop with
 |true=>
  rw[y] at Q;go_enter Tryz.func135,Tryz.ntmps135
  go_wp2_with fail
  refine Q.mono ?_;rintro e f ⟨rfl,R,T1⟩;go_wp2_with fail
  go_ret;exact⟨rfl,⟨_,_,_,_,_,R⟩,T1.mono b1⟩
 |false=>
  rw[y] at Q;go_enter Tryz.func135,Tryz.ntmps135
  go_wp2_with fail
  refine Q.mono ?_;rintro e f ⟨rfl,R,T1⟩;have c1:=R.c1;have b4:=run_range_map (P:=Tryz.prog) f 150 _ _ bm l.toArray clock Tryz.underlying150 R.map;go_wp2_with fail
  have b0:∀k,(S k/\k<f.1.size)->k≠f.1.size:=λk h=>by omega
  have Y:Turn (λk=>S k/\k<f.1.size) f (f.alloc (Obj.mapIter (some bm) clock #[] clock)):=qm9 _ _ _;go_loopw [4] (λ_ wr=>∃(l:List MapEntry) (v:Nat->Value) (D':DM) (d:Array Nat),Lay wr bp bd bm l clock v (λk=>S k/\k<f.1.size) D'/\Fl D.stepD D'/\wr.1[f.1.size]?=some (.mapIter (some bm) clock d clock)/\(∀e∈l,d.contains e.born=false)/\
   Turn (λk=>S k/\k<f.1.size) f wr) (λ_ wr=>q9u wr bm)
  case atStart=>exact⟨l,v,D.stepD,#[],R.tight.keep λk hk _=>heap_alloc_old f _ hk,Fl.refl _,heap_alloc_new f _,λ_ _=>by simp,Y⟩
  case round=>
   clear c1 b4 Y;obtain⟨l,v,D',d,L,F,a2,u,T⟩:=hrel;have hE:leftOf l.toArray d=l.toArray:=by
    unfold leftOf;rw[Array.filter_eq_self];intro e m;rw[u e (by simpa using m)];rfl
   rcases run_next_at (P:=Tryz.prog) wr 0 f.1.size bm clock clock d l.toArray clock a2 L.map (λx J=>L.ents.clock x (by simpa using J)) (Nat.le_refl _) with⟨h0,I⟩|⟨e,m,O,Z,I⟩
   ·rw[hE] at h0;obtain rfl:l=[]:=List.eq_nil_of_length_eq_zero (by simpa using h0);have M:D'=D.stepD.flush:=F.done λs=>by
     have:=L.look s;unfold Zf at this;by_cases h:D'.Zm s=[]
     ·exact h
     ·rw[if_neg h] at this;cases this
    subst M;go_wp2_with fail
    go_ret;exact⟨rfl,⟨_,_,_,_,_,L.mono λ_ _ h=>h.1⟩,(T1.mono b1).then (T.mono λ_ h=>h.1)⟩
   ·rw[hE] at m;have m:e∈l:=by simpa using m
    obtain⟨s,hs,E⟩:=L.keys e m;have K:D'.Zm s≠[]:=λh=>by
     have h1:=L.look s;rw[if_pos h,<-E,q5m L.ents.one m] at h1;cases h1
    have b2:e.val=v s:=by
     have h1:=L.look s;rw[if_neg K,<-E,q5m L.ents.one m] at h1;exact Option.some.inj h1
    have a7:e.key=.int .i64 (s:Int):=by rw[L.ents.key e m,E]
    obtain⟨A0,c0,b6,_⟩:=qu1 (L.row s);have b9:f.1.size<wr.1.size:=Kw a2;have c6:O.1.size=wr.1.size:=by rcases Z with rfl|rfl<;>rfl
    have T2:Turn (λk=>k=f.1.size) wr O:=by
     rcases Z with rfl|rfl
     ·exact Turn.refl _ _
     ·exact (Turn.refl _ _).drew
    have T3:=T2.then (q0t (w:=O) (.mapIter (some bm) clock (d.push e.born) clock) (b:=f.1.size) (S:=λk=>k=f.1.size) rfl);have L3:=L.keep (w':=setBlock O f.1.size (.mapIter (some bm) clock (d.push e.born) clock)) λk hk h=>T3.block k hk (b0 k h)
    have p:(setBlock O f.1.size (.mapIter (some bm) clock (d.push e.born) clock)).1[f.1.size]?=some (.mapIter (some bm) clock (d.push e.born) clock):=q2n (by omega);have a1:=run_entry_at (P:=Tryz.prog) _ f.1.size bm clock d l.toArray clock e p L3.map (by simpa using m) (by simpa using L.ents.born);rw[a7,b2,b6] at I a1;have H3:=qlc L3 s hs (D'.Zm s).length (Nat.le_refl _);have b3:q9u wr bm=l.length:=qbn L.map;go_wp2_with fail
    refine H3.mono ?_;rintro e5 w5 ⟨rfl,L5,T5⟩;have U:Turn (λk=>S k/\k<f.1.size) (setBlock O f.1.size (.mapIter (some bm) clock (d.push e.born) clock)) w5:=T5.mono λx J=>by rcases J with h|h;exact h▸L.Yn.2.1;exact h▸L.Yn.2.2.1
    have a6:w5.1[f.1.size]?=some (.mapIter (some bm) clock (d.push e.born) clock):=(U.block _ (Kw p) (λh=>b0 _ h rfl)).trans p;have G:∀x∈Xp (s:Int) l,(d.push e.born).contains x.born=false:=λx J=>by
     rw[contains_push,u x (q5n J),Bool.false_or,beq_eq_false_iff_ne];intro hb;have b7:=born_inj L.ents.born (q5n J) m hb;subst b7;have h1:=q5m (L.ents.del (s:Int)).one J;rw[q8q _ L.ents.one,E,if_pos rfl] at h1
     cases h1
    have a8:q9u w5 bm=l.length-1:=by
     rw[qbn L5.map,qbc,if_neg (by rw[L.look s,if_neg K];simp)]
    have b8:0<l.length:=List.length_pos_iff.2 λh=>by rw[h] at m;cases m
    go_wp2_with fail
    have T6:Turn (λk=>S k/\k<f.1.size) f w5:=(T.trans T3 (λx J=>.inr (by omega))).then U;exact⟨⟨_,_,_,_,L5,F.settle s K,a6,G,T6⟩,by rw[a8,b3];omega⟩
end
section
open Go.ChangeMaps (setBlock)
def Qaw (at_ m:Nat)(l:List UInt8):List UInt8:=l.set at_ (UInt8.ofNat (Ku l at_) ^^^ UInt8.ofNat m)
def DM.turn (D:DM)(s at_ m:Nat):DM:={ D with Xc:=upd D.Xc s (Qaw at_ m (D.Xc s)),Zm:=upd D.Zm s ((D.Zm s).map (Qaw at_ m)) }
section
variable {w:World}{bp bd bm clock:Nat}{l:List MapEntry}{v:Nat->Value}{S:Nat->Prop}{D:DM}
end
end
inductive Stp where
 |w (s:Nat) (x:List UInt8)
 |fl
def Stp.ok (n:Nat):Stp->Prop
 |.w s x=>s<n/\x.length=256
 |.fl=>True
def DM.does (D:DM):Stp->DM
 |.w s x=>D.Yu s x
 |.fl=>D.Y9
def DM.says (D:DM):Stp->Int
 |.w s x=>D.Zg s x
 |.fl=>D.err
def DM.Jh (D:DM):List Stp->Int
 |[]=>0
 |a::l=>if D.says a=0 then (D.does a).Jh l else D.says a
def DM.Qz (D:DM):List Stp->DM
 |[]=>D
 |a::l=>if D.says a=0 then (D.does a).Qz l else D.does a
theorem q3p (a b:List Stp):∀D:DM,D.Jh (a++b)=if D.Jh a=0 then (D.Qz a).Jh b else D.Jh a:=by
 induction a with
 |nil=>intro D;simp[DM.Jh,DM.Qz]
 |cons x a ih=>
  intro D;show (if D.says x=0 then (D.does x).Jh (a++b) else D.says x)=_;by_cases h:D.says x=0
  ·rw[if_pos h,ih];simp only[DM.Jh,DM.Qz,if_pos h]
  ·simp only[DM.Jh,if_neg h]
theorem q3q (a b:List Stp):∀D:DM,D.Qz (a++b)=if D.Jh a=0 then (D.Qz a).Qz b else D.Qz a:=by
 induction a with
 |nil=>intro D;simp[DM.Jh,DM.Qz]
 |cons x a ih=>
  intro D;show (if D.says x=0 then (D.does x).Qz (a++b) else D.does x)=_;by_cases h:D.says x=0
  ·rw[if_pos h,ih];simp only[DM.Jh,DM.Qz,if_pos h]
  ·simp only[DM.Jh,DM.Qz,if_neg h]
structure Mem where
 Xc:Nat->List UInt8
 Zm:Nat->List (List UInt8)
def DM.mem (D:DM):Mem:=⟨D.Xc,D.Zm⟩
def Mem.newest (M:Mem)(s:Nat):List UInt8:=(M.Zm s).getLastD (M.Xc s)
def Mem.go (M:Mem):Stp->Mem
 |.w s x=>⟨M.Xc,upd M.Zm s (M.Zm s++[x])⟩
 |.fl=>⟨M.newest,λ_=>[]⟩
def Mem.gos (M:Mem):List Stp->Mem
 |[]=>M
 |a::l=>(M.go a).gos l
theorem qbo (a b:List Stp):∀M:Mem,M.gos (a++b)=(M.gos a).gos b:=by
 induction a with
 |nil=>intro M;rfl
 |cons x a ih=>intro M;exact ih _
theorem qww {D:DM}{a:Stp}(e:a.ok D.n)(h:D.stop=false):D.says a=0/\(D.does a).mem=D.mem.go a/\(D.does a).n=D.n/\(D.does a).cap=D.cap/\(D.does a).off=false/\(D.does a).fused=D.fused/\(D.does a).left=(if D.fused then D.left-1 else D.left)/\(D.does a).steps=D.steps+1:=by
 have d:D.stepD={ D with off:=false,left:=if D.fused then D.left-1 else D.left,steps:=D.steps+1 }:=by unfold DM.stepD;rw[h];rfl
 cases a with
 |w s x=>
  have f:D.bad s x=false:=by unfold DM.bad;exact decide_eq_false (by rintro (h1|h1);exact h1 ⟨by omega,by have:=e.1;omega⟩;exact h1 e.2)
  refine⟨by show D.Zg s x=0;unfold DM.Zg DM.err;rw[f,h];rfl,?_⟩;have:D.does (.w s x)={ D.stepD with Zm:=upd D.Zm s (D.Zm s++[x]) }:=by
   show D.Yu s x=_;unfold DM.Yu;rw[f,h];rfl
  rw[this,d];exact⟨rfl,rfl,rfl,rfl,rfl,rfl,rfl⟩
 |fl=>
  refine⟨by show D.err=0;unfold DM.err;rw[h];rfl,?_⟩;have:D.does .fl=D.stepD.flush:=by
   show D.Y9=_;unfold DM.Y9;rw[h];rfl
  rw[this,d];exact⟨rfl,rfl,rfl,rfl,rfl,rfl,rfl⟩
theorem qoa {D:DM}{a:Stp}(e:a.ok D.n)(h:D.stop=true):D.says a=4/\(D.does a).mem=D.mem/\(D.does a).n=D.n/\(D.does a).cap=D.cap/\(D.does a).off=true/\(D.does a).fused=D.fused/\(D.does a).left=D.left/\(D.does a).steps=D.steps:=by
 have d:D.stepD={ D with off:=true,left:=D.left,steps:=D.steps }:=by unfold DM.stepD;rw[h];rfl
 cases a with
 |w s x=>
  have f:D.bad s x=false:=by unfold DM.bad;exact decide_eq_false (by rintro (h1|h1);exact h1 ⟨by omega,by have:=e.1;omega⟩;exact h1 e.2)
  refine⟨by show D.Zg s x=4;unfold DM.Zg DM.err;rw[f,h];rfl,?_⟩;have:D.does (.w s x)=D.stepD:=by
   show D.Yu s x=_;unfold DM.Yu;rw[f,h];rfl
  rw[this,d];exact⟨rfl,rfl,rfl,rfl,rfl,rfl,rfl⟩
 |fl=>
  refine⟨by show D.err=4;unfold DM.err;rw[h];rfl,?_⟩;have:D.does .fl=D.stepD:=by
   show D.Y9=_;unfold DM.Y9;rw[h];rfl
  rw[this,d];exact⟨rfl,rfl,rfl,rfl,rfl,rfl,rfl⟩
def DM.room (D:DM)(m:Nat):Nat:=if D.off then 0 else if D.fused then min D.left m else m
theorem qwx (D:DM)(m:Nat):D.room m<=m:=by unfold DM.room;split;omega;split<;>omega
theorem qt4 (l:List Stp):∀D:DM,(∀a∈l,a.ok D.n)->
  (D.Qz l).mem=D.mem.gos (l.take (D.room l.length))/\(D.Qz l).n=D.n/\(D.Qz l).cap=D.cap/\(D.Qz l).fused=D.fused/\(D.Qz l).steps=D.steps+D.room l.length/\(D.Qz l).left=(if D.fused then D.left-D.room l.length else D.left)/\
   ((D.room l.length=l.length/\D.Jh l=0/\(D.Qz l).off=D.off)\/(D.room l.length<l.length/\D.Jh l=4/\(D.Qz l).off=true)):=by
 induction l with
 |nil=>
  intro D _;have p:D.room 0=0:=Nat.le_zero.1 (qwx D 0);show D.mem=D.mem.gos (List.take (D.room 0) [])/\_;rw[show ([]:List Stp).length=0 from rfl,p];exact⟨rfl,rfl,rfl,rfl,rfl,by split<;>rfl,.inl ⟨rfl,rfl,rfl⟩⟩
 |cons a l ih=>
  intro D d;have O:=d a (List.mem_cons_self ..)
  cases h:D.stop with
  |true=>
   obtain⟨f,G,u,I,y,m,E,J⟩:=qoa O h;have p:D.room (a::l).length=0:=by
    unfold DM.stop at h;unfold DM.room
    cases e:D.off with
    |true=>rfl
    |false=>
     rw[e,Bool.false_or,Bool.and_eq_true,decide_eq_true_iff] at h;rw[h.1,h.2];simp
   have K:D.Qz (a::l)=D.does a:=by show (if D.says a=0 then _ else _)=_;rw[if_neg (by rw[f];decide)]
   have M:D.Jh (a::l)=4:=by show (if D.says a=0 then _ else _)=_;rw[if_neg (by rw[f];decide),f]
   rw[K,M,p];exact⟨G,u,I,m,J,by rw[E];split<;>rfl,.inr ⟨by simp,rfl,y⟩⟩
  |false=>
   obtain⟨f,G,u,I,y,m,E,J⟩:=qww O h;have e:D.off=false:=by unfold DM.stop at h;cases e:D.off with|true=>rw[e] at h;simp at h|false=>rfl
   have R:D.fused=true->0<D.left:=λF=>by
    unfold DM.stop at h;rw[e,F] at h;simp at h;omega
   have K:D.Qz (a::l)=(D.does a).Qz l:=by show (if D.says a=0 then _ else _)=_;rw[if_pos f]
   have M:D.Jh (a::l)=(D.does a).Jh l:=by show (if D.says a=0 then _ else _)=_;rw[if_pos f]
   have p:D.room (a::l).length=(D.does a).room l.length+1:=by
    unfold DM.room;rw[e,y,m,E]
    cases F:D.fused with
    |true=>have:=R F;simp;omega
    |false=>simp
   obtain⟨T,U,Y,Z,i5,i6,i7⟩:=ih (D.does a) (λb Q=>by rw[u];exact d b (List.mem_cons_of_mem _ Q));rw[K,M,p];refine⟨by rw[T,G];rfl,U.trans u,Y.trans I,Z.trans m,by rw[i5,J];omega,?_,?_⟩
   ·rw[i6,m,E]
    cases F:D.fused with
    |true=>simp;omega
    |false=>simp
   ·rw[e];rcases i7 with⟨j1,j2,j3⟩|⟨j1,j2,j3⟩
    ·exact .inl ⟨by simp[j1],j2,j3.trans y⟩
    ·exact .inr ⟨by simp;exact j1,j2,j3⟩
def Y5 (s:Nat):List Stp->List UInt8->List UInt8
 |[],d=>d
 |.w t x::l,d=>Y5 s l (if t=s then x else d)
 |.fl::l,d=>Y5 s l d
theorem qf1 (M:Mem)(a:Stp)(s:Nat):(M.go a).newest s=(match a with|.w t x=>if t=s then x else M.newest s|.fl=>M.newest s):=by
 cases a with
 |w t x=>
  show (upd M.Zm t (M.Zm t++[x]) s).getLastD (M.Xc s)=if t=s then x else _
  by_cases h:t=s
  ·subst h;rw[Bd,if_pos rfl];simp[List.getLastD_eq_getLast?]
  ·rw[Au _ _ (λe=>h e.symm),if_neg h];rfl
 |fl=>rfl
theorem q7a (s:Nat):∀(l:List Stp) (M:Mem),(M.gos l).newest s=Y5 s l (M.newest s)
 |[],M=>rfl
 |.w t x::l,M=>by
  show ((M.go (.w t x)).gos l).newest s=Y5 s l (if t=s then x else M.newest s);rw[q7a s l,qf1]
 |.fl::l,M=>by
  show ((M.go .fl).gos l).newest s=Y5 s l (M.newest s);rw[q7a s l,qf1]
theorem Sv (s:Nat):∀(a b:List Stp) (d:List UInt8),Y5 s (a++b) d=Y5 s b (Y5 s a d)
 |[],_,_=>rfl
 |.w _ _::a,b,_=>Sv s a b _
 |.fl::a,b,_=>Sv s a b _
def spares (s:Nat)(l:List Stp):Prop:=∀t x,Stp.w t x∈l->t≠s
theorem q2u {s:Nat}:∀{l:List Stp} (_:spares s l) (d:List UInt8),Y5 s l d=d
 |[],_,_=>rfl
 |.w t x::l,h,d=>by
  show Y5 s l (if t=s then x else d)=d;rw[if_neg (h t x (List.mem_cons_self ..))];exact q2u (λt x e=>h t x (List.mem_cons_of_mem _ e)) d
 |.fl::l,h,d=>q2u (l:=l) (λt x e=>h t x (List.mem_cons_of_mem _ e)) d
def Mem.may (M:Mem)(s:Nat)(x:List UInt8):Prop:=x=M.Xc s\/x∈M.Zm s
def Ld (A:List Stp)(slot:Nat)(d:List UInt8):List Stp:=A++.fl::[.w slot d,.fl]
def Fe (at_:Nat)(l:List (List UInt8)):List Stp:=(List.range l.length).map λi=>.w (at_+i) (l.getD i [])
theorem qhd (at_:Nat)(l:List (List UInt8)):(Fe at_ l).length=l.length:=by unfold Fe;simp
theorem qob {at_:Nat}{l:List (List UInt8)}{s:Nat}{x:List UInt8}(h:Stp.w s x∈Fe at_ l):∃i,i<l.length/\s=at_+i/\x=l.getD i []:=by
 unfold Fe at h;rw[List.mem_map] at h;obtain⟨i,hi,e⟩:=h;injection e with d f;exact⟨i,List.mem_range.1 hi,d.symm,f.symm⟩
theorem qlo {at_:Nat}{l:List (List UInt8)}{s:Nat}(h:s<at_\/at_+l.length<=s):spares s (Fe at_ l):=λt x d=>by
 obtain⟨i,hi,e,_⟩:=qob d;omega
theorem qf2 (g:Nat->List UInt8)(at_:Nat):∀(k i:Nat) (d:List UInt8),Y5 (at_+i) ((List.range k).map λi=>Stp.w (at_+i) (g i)) d=if i<k then g i else d
 |0,i,d=>rfl
 |k+1,i,d=>by
  rw[List.range_succ,List.map_append,Sv,qf2 g at_ k i d];show (if at_+k=at_+i then g k else _)=_;by_cases h:i=k
  ·subst h;rw[if_pos rfl,if_pos (by omega)]
  ·rw[if_neg (by omega)];by_cases h2:i<k
   ·rw[if_pos h2,if_pos (by omega)]
   ·rw[if_neg h2,if_neg (by omega)]
theorem qoc (at_:Nat)(l:List (List UInt8))(i:Nat)(d:List UInt8)(h:i<l.length):Y5 (at_+i) (Fe at_ l) d=l.getD i []:=by
 unfold Fe;rw[qf2,if_pos h]
theorem qt5 (at_:Nat)(d:List (List UInt8)){j:Nat}(e:j<d.length):(Fe at_ d).take (j+1)=(Fe at_ d).take j++[.w (at_+j) (d.getD j [])]:=by
 have f:j<(Fe at_ d).length:=by rw[qhd];exact e
 rw[List.take_add_one,List.getElem?_eq_getElem f];have:(Fe at_ d)[j]=.w (at_+j) (d.getD j []):=by simp[Fe]
 rw[this];rfl
structure Kp (B:Nat)(X:Nat->Prop)(w w':World):Prop where
 os:w'.os=w.os
 tape:w'.tape=w.tape
 output:w'.output=w.output
 size:w.heap.size<=w'.heap.size
 block:∀k,k<w.heap.size->(k<B\/X k)->w'.heap[k]?=w.heap[k]?
section
variable {B:Nat}{X X':Nat->Prop}{w w' w'':World}
theorem Kp.refl (B:Nat)(X:Nat->Prop)(w:World):Kp B X w w:=⟨rfl,rfl,rfl,Nat.le_refl _,λ_ _ _=>rfl⟩
theorem Kp.trans (h:Kp B X w w')(k:Kp B X w' w''):Kp B X w w'':=
 ⟨k.os.trans h.os,k.tape.trans h.tape,k.output.trans h.output,Nat.le_trans h.size k.size,λi hi d=>(k.block i (Nat.lt_of_lt_of_le hi h.size) d).trans (h.block i hi d)⟩
theorem Kp.mono (h:Kp B X w w')(hs:∀x,x<w.1.size->X' x->X x):Kp B X' w w':=⟨h.os,h.tape,h.output,h.size,λk d e=>h.block k d (e.imp id (hs k d))⟩
theorem Kp.below (h:Kp B X w w')(hB:B<=w.1.size):Below B w w':=⟨h.os,h.tape,h.output,h.size,λk d=>h.block k (by omega) (.inl d)⟩
theorem Kp.sl {A:Option Addr}{n c:Nat}{l:List UInt8}(h:Kp B X w w')(s:Sl w A n c l)(ha:∀d,A=some d->d.block<B\/X d.block):Sl w' A n c l:=
 ⟨s.1,s.2.1,s.2.2.1,λj u p=>by
  obtain⟨d,e,f,m⟩:=s.2.2.2 j u p;refine⟨d,e,by have:=h.size;omega,?_⟩;exact (World.cell?_of_block (w:=w) (w':=w') (a:=d.add j) (by rw[Ls];exact h.block _ f (ha d e))).trans m⟩
theorem Kp.cell {p:Addr}(h:Kp B X w w')(hp:p.block<w.1.size)(hx:p.block<B\/X p.block):w'.cell? p=w.cell? p:=World.cell?_of_block (w:=w) (h.block p.block hp hx)
end
def Hold (w:World)(X:Nat->Prop)(A:Option Addr)(n:Nat)(l:List UInt8):Prop:=Sl w A n n l/\∀d,A=some d->X d.block
section
variable {B:Nat}{X X':Nat->Prop}{w w':World}{A:Option Addr}{n:Nat}{l:List UInt8}
theorem Hold.below (h:Hold w X A n l)(k:Below w.1.size w w'):Hold w' X A n l:=⟨h.1.below k,h.2⟩
end
def Run (w:World)(B:Nat)(X:Nat->Prop)(bp:Nat)(D:DM):Prop:=B<=w.1.size/\(∀k,X k->k<w.1.size)/\∃S,Wu w bp S D/\∀k,S k->k<w.1.size->B<=k/\¬X k
section
variable {B:Nat}{X:Nat->Prop}{w w':World}{bp:Nat}{D D':DM}
theorem Wu.keep {S:Nat->Prop}(h:Wu w bp S D)(hk:∀k,k<w.1.size->S k->w'.1[k]?=w.1[k]?):Wu w' bp S D:=by
 obtain⟨bd,bm,l,c,v,L⟩:=h;exact⟨bd,bm,l,c,v,L.keep hk⟩
theorem Wu.mono {S S':Nat->Prop}(h:Wu w bp S D)(hk:∀k,k<w.1.size->S k->S' k):Wu w bp S' D:=by
 obtain⟨bd,bm,l,c,v,L⟩:=h;exact⟨bd,bm,l,c,v,L.mono hk⟩
theorem Run.turned {S S':Nat->Prop}(hB:B<=w.1.size)(hX:∀k,X k->k<w.1.size)(hS:∀k,S k->k<w.1.size->B<=k/\¬X k)(L:Wu w' bp S' D')(T:Turn S w w')(hS':∀k,S' k->S k\/w.1.size<=k):Run w' B X bp D'/\Kp B X w w':=by
 have e:=T.size;refine⟨⟨by omega,λk d=>by have:=hX k d;omega,S',L,λk d f=>?_⟩,⟨T.os,T.tape,T.output,e,λk d m=>T.block k d λh=>?_⟩⟩
 ·by_cases h1:k<w.1.size
  ·rcases hS' k d with h|h
   ·exact hS k h h1
   ·omega
  ·exact⟨by omega,λh=>by have:=hX k h;omega⟩
 ·have:=hS k h d;rcases m with h1|h1
  ·omega
  ·exact this.2 h1
theorem Run.below {X':Nat->Prop}(h:Run w B X bp D)(hb:Below w.1.size w w')(hX:∀k,X' k->X k\/(w.1.size<=k/\k<w'.1.size)):Run w' B X' bp D:=by
 obtain⟨h1,h2,S,e,f⟩:=h;have u:=hb.size;refine⟨by omega,λk d=>?_,λk=>S k/\k<w.1.size,(e.mono λk d h=>⟨h,d⟩).keep λk d _=>hb.block k d,λk d _=>?_⟩
 ·rcases hX k d with h|h
  ·have:=h2 k h;omega
  ·exact h.2
 ·obtain⟨m,p⟩:=f k d.1 d.2;refine⟨m,λh=>?_⟩;rcases hX k h with h|h
  ·exact p h
  ·omega
def DM.ok (D:DM)(m:Nat):Prop:=D.steps<=m/\∀k,(D.Zm k).length<=m
theorem DM.ok.mono {D:DM}{m m':Nat}(h:D.ok m)(hm:m<=m'):D.ok m':=⟨by have:=h.1;omega,λk=>by have:=h.2 k;omega⟩
end
section
open Go.ChangeShapes Go.WideShapes Go.ChangeAt
def i64 (z:Int):Prop:=-9223372036854775808<=z/\z<=9223372036854775807
section
variable {H:Type}{enc:TypeId × Value->H}{P:Program}{W:World}
end
section
variable {w w':World}{A:Option Addr}{n c:Nat}{ps:List (Int × Int)}
end
end
section
open Go.ChangeShapes Go.WideShapes Go.ChangeAt Go.Deep
section
variable {H:Type}{enc:TypeId × Value->H}{W:World}
theorem qj4 {m:Nat}{c:Value}{y:DataW H × List MemPlace}(h:DataW.trod enc Tryz.prog W 0 (λ_=>true) true m 3 [c]=some y):∃z,c=.int .i64 z:=by
 obtain⟨z,d,_,_⟩:=DataW.trod_int Tryz.underlying3 h;exact⟨z,by simpa using d⟩
theorem qt6 {r:Reach}{U:Nat}{v:Value}{d:DataW H}{ps:List MemPlace}(hv:Value.okWide Tryz.prog W r U 32 v)(h:DataW.Trod enc Tryz.prog W 0 (λ_=>true) true 32 v d ps) :
  ∃s y z,v=.agg #[.string s,.int .i64 y,.int .i64 z]:=by
 obtain⟨p,rfl,a1⟩:=okWide_struct Tryz.underlying32 hv;obtain⟨f,hf⟩:=h;obtain⟨E,m,_,_,Q,J,e⟩:=DataW.trod_struct Tryz.underlying32 hf;have G:(Value.agg p).cells.toList=p.toList:=rfl;rw[G] at Q e;have I:p.toList.length=3:=by rw[Q];kernel_rfl
 have k1:Tryz.prog.cellsOf 3=1:=by kernel_rfl
 have ks:Tryz.prog.cellsOf 9=1:=by kernel_rfl
 obtain⟨v0,R,T,u⟩:∃v0 R T,p.toList=[v0,R,T]:=by
  match p.toList,I with
  |[a,b,c],_=>exact⟨a,b,c,rfl⟩
 have K:DataW.trod enc Tryz.prog W 0 (λ_=>true) true m 9 (List.take (Tryz.prog.cellsOf 9) (List.drop 0 p.toList))=E[0]?:=e 0 _ rfl;have M:DataW.trod enc Tryz.prog W 0 (λ_=>true) true m 3 (List.take (Tryz.prog.cellsOf 3) (List.drop 1 p.toList))=E[1]?:=e 1 _ rfl;have O:DataW.trod enc Tryz.prog W 0 (λ_=>true) true m 3 (List.take (Tryz.prog.cellsOf 3) (List.drop 2 p.toList))=E[2]?:=e 2 _ rfl;have hx:E.length=3:=J;rw[k1,u,List.getElem?_eq_getElem (by omega)] at M O;rw[ks,u,List.getElem?_eq_getElem (by omega)] at K;obtain⟨s,F,_,_⟩:=DataW.trod_string Tryz.underlying9 K;have F:v0=.string s:=by simpa using F
 obtain⟨z1,Y⟩:=qj4 (by simpa using M);obtain⟨z2,Z⟩:=qj4 (by simpa using O);refine⟨s,z1,z2,?_⟩;rw[F,Y,Z] at u;exact congrArg Value.agg (by rw[<-u])
end
end
