/- Crash: each sector with cached writes is settled as what is kept tells, from the first on -/
import Derived.Test.YthkfkhejjmhomaaGreatDoorEs15
import Derived.BigQuiet
import Derived.Deep.QuietTactic
namespace Go.Proofs.YthkfkhejjmhomaaGreatDoor
open Go Go.RowKit Go.Proofs
set_option maxHeartbeats 2000000
set_option maxRecDepth 100000
section
open Go.ChangeMaps (setBlock)
def Ints (w:World)(A:Option Addr)(n c:Nat)(zs:List Int):Prop:=Holds w w.1.size A n c (zs.map (Value.int .i64))/\∀z∈zs,-9223372036854775808<=z/\z<=9223372036854775807
section
variable {w w':World}{A:Option Addr}{n c:Nat}{zs:List Int}{S:Nat->Prop}
theorem Ints.len (h:Ints w A n c zs):zs.length=n:=by simpa using h.1.1
theorem Ints.cap (h:Ints w A n c zs):n<=c:=h.1.2.1
theorem Ints.max (h:Ints w A n c zs):c<=maxLen:=h.1.2.2.1
theorem Ints.range (h:Ints w A n c zs):-9223372036854775808<=zs.headD 0/\zs.headD 0<=9223372036854775807:=by
 rcases zs with _|⟨z,r⟩
 ·simp
 ·exact h.2 z (by simp)
end
end
section
open Go.ChangeMaps (setBlock)
def DM.flush (D:DM):DM:={ D with Xk:=D.newest,Zu:=λ_=>[] }
def DM.Y9 (D:DM):DM:=if D.stop then D.stepD else D.stepD.flush
structure Fl (D D':DM):Prop where
 n:D'.n=D.n
 off:D'.off=D.off
 fused:D'.fused=D.fused
 left:D'.left=D.left
 steps:D'.steps=D.steps
 cap:D'.cap=D.cap
 at_:∀s,(D'.Zu s=D.Zu s/\D'.Xk s=D.Xk s)\/(D'.Zu s=[]/\D'.Xk s=D.newest s)
theorem Fl.refl (D:DM):Fl D D:=⟨rfl,rfl,rfl,rfl,rfl,rfl,λ_=>.inl ⟨rfl,rfl⟩⟩
theorem qou {α:Type}(l:List α)(a d:α)(h:l≠[]):l.getD (l.length-1) d=l.getLastD a:=by
 have h0:0<l.length:=List.length_pos_iff.2 h;rw[List.getD_eq_getElem?_getD,List.getElem?_eq_getElem (by omega),List.getLastD_eq_getLast?,List.getLast?_eq_some_getLast h,List.getLast_eq_getElem];rfl
theorem Fl.settle {D D':DM}(h:Fl D D')(s:Nat)(hs:D'.Zu s≠[]):Fl D (D'.settle s (D'.Zu s).length):=by
 have h0:(D'.Zu s).length≠0:=λe=>hs (List.eq_nil_of_length_eq_zero e)
 refine⟨h.n,h.off,h.fused,h.left,h.steps,h.cap,λz=>?_⟩;have hd:(D'.settle s (D'.Zu s).length).Xk=upd D'.Xk s ((D'.Zu s).getD ((D'.Zu s).length-1) []):=by unfold DM.settle;rw[if_neg h0]
 by_cases b:z=s
 ·right
  subst b;refine⟨q0n _ _ _,?_⟩;rw[hd,q0n];rcases h.at_ z with⟨h1,h2⟩|⟨h1,_⟩
  ·rw[qou _ (D'.Xk z) _ hs,h1,h2];rfl
  ·exact absurd h1 hs
 ·rw[hd];show (upd D'.Zu s [] z=D.Zu z/\upd D'.Xk s _ z=D.Xk z)\/(upd D'.Zu s [] z=[]/\upd D'.Xk s _ z=D.newest z);rw[Ag _ _ b,Ag _ _ b];exact h.at_ z
theorem Fl.done {D D':DM}(h:Fl D D')(hc:∀s,D'.Zu s=[]):D'=D.flush:=by
 obtain⟨n,Xk,Zu,off,fused,left,steps,cap⟩:=D';obtain⟨h1,h2,f,m,p,y,u⟩:=h;simp only at h1 h2 f m p u y hc;subst h1 h2 f m p y;have d:Zu=λ_=>[]:=funext hc
 have e:Xk=D.newest:=funext λs=>by
  rcases u s with⟨a,b⟩|⟨_,b⟩
  ·rw[b];unfold DM.newest;rw[<-a,hc s];rfl
  ·exact b
 subst d e;rfl
theorem Lay.tight {w:World}{bp bd bm clock:Nat}{l:List MapEntry}{v:Nat->Value}{S:Nat->Prop}{D:DM}(L:Lay w bp bd bm l clock v S D):Lay w bp bd bm l clock v (λk=>S k/\k<w.1.size) D:=L.mono λ_ h1 h2=>⟨h2,h1⟩
def qad (w:World)(b:Nat):Nat:=match w.1[b]? with|some (.map es _)=>es.size|_=>0
theorem qc3 {w:World}{b clock:Nat}{l:List MapEntry}(h:w.1[b]?=some (.map l.toArray clock)):qad w b=l.length:=by unfold qad;rw[h];simp
theorem qov {w:World}{bp:Nat}{S:Nat->Prop}{D:DM}(L0:Vp w bp S D)(b1:D.steps<=1000000000)(_:∀k,(D.Zu k).length<=1000000) :
  Calls Tryz.prog 135 #[.pointer (some ⟨bp,0,none⟩)] w λe w'=>e=.returned (.int .i64 D.err)/\Vp w' bp S D.Y9/\Turn S w w':=by
 obtain⟨bd,m,l,clock,v,L⟩:=L0;have R:=qko L b1;have a7:∀k,k=bp->S k:=λk e=>e▸L.Yj.1
 unfold DM.Y9;unfold DM.err at R ⊢
 cases E:D.stop with
 |true=>
  rw[E] at R;go_enter Tryz.func135,Tryz.ntmps135
  go_wp2_with fail
  refine R.mono ?_;rintro e f ⟨rfl,U,T1⟩;go_wp2_with fail
  go_ret;exact⟨rfl,⟨_,_,_,_,_,U⟩,T1.mono a7⟩
 |false=>
  rw[E] at R;go_enter Tryz.func135,Tryz.ntmps135
  go_wp2_with fail
  refine R.mono ?_;rintro e f ⟨rfl,U,T1⟩;have c1:=U.c1;have b0:=run_range_map (P:=Tryz.prog) f 150 _ _ m l.toArray clock Tryz.underlying150 U.map;go_wp2_with fail
  have a6:∀k,(S k/\k<f.1.size)->k≠f.1.size:=λk h=>by omega
  have Z:Turn (λk=>S k/\k<f.1.size) f (f.alloc (Obj.mapIter (some m) clock #[] clock)):=qmx _ _ _;go_loopw [4] (λ_ wr=>∃(l:List MapEntry) (v:Nat->Value) (D':DM) (d:Array Nat),Lay wr bp bd m l clock v (λk=>S k/\k<f.1.size) D'/\Fl D.stepD D'/\wr.1[f.1.size]?=some (.mapIter (some m) clock d clock)/\(∀e∈l,d.contains e.born=false)/\
   Turn (λk=>S k/\k<f.1.size) f wr) (λ_ wr=>qad wr m)
  case atStart=>exact⟨l,v,D.stepD,#[],U.tight.keep λk hk _=>heap_alloc_old f _ hk,Fl.refl _,heap_alloc_new f _,λ_ _=>by simp,Z⟩
  case round=>
   clear c1 b0 Z;obtain⟨l,v,D',d,L,F,a2,y,T⟩:=hrel;have hE:leftOf l.toArray d=l.toArray:=by
    unfold leftOf;rw[Array.filter_eq_self];intro e p;rw[y e (by simpa using p)];rfl
   rcases run_next_at (P:=Tryz.prog) wr 0 f.1.size m clock clock d l.toArray clock a2 L.map (λx K=>L.ents.clock x (by simpa using K)) (Nat.le_refl _) with⟨h0,J⟩|⟨e,p,Q,a0,J⟩
   ·rw[hE] at h0;obtain rfl:l=[]:=List.eq_nil_of_length_eq_zero (by simpa using h0);have O:D'=D.stepD.flush:=F.done λs=>by
     have:=L.look s;unfold Zg at this;by_cases h:D'.Zu s=[]
     ·exact h
     ·rw[if_neg h] at this;cases this
    subst O;go_wp2_with fail
    go_ret;exact⟨rfl,⟨_,_,_,_,_,L.mono λ_ _ h=>h.1⟩,(T1.mono a7).then (T.mono λ_ h=>h.1)⟩
   ·rw[hE] at p;have p:e∈l:=by simpa using p
    obtain⟨s,hs,G⟩:=L.keys e p;have M:D'.Zu s≠[]:=λh=>by
     have h1:=L.look s;rw[if_pos h,<-G,q45 L.ents.one p] at h1;cases h1
    have a8:e.val=v s:=by
     have h1:=L.look s;rw[if_neg M,<-G,q45 L.ents.one p] at h1;exact Option.some.inj h1
    have a4:e.key=.int .i64 (s:Int):=by rw[L.ents.key e p,G]
    obtain⟨A0,c0,b2,_⟩:=qu9 (L.row s);have b5:f.1.size<wr.1.size:=Wx a2;have b6:Q.1.size=wr.1.size:=by rcases a0 with rfl|rfl<;>rfl
    have T2:Turn (λk=>k=f.1.size) wr Q:=by
     rcases a0 with rfl|rfl
     ·exact Turn.refl _ _
     ·exact (Turn.refl _ _).drew
    have T3:=T2.then (Rj (w:=Q) (.mapIter (some m) clock (d.push e.born) clock) (b:=f.1.size) (S:=λk=>k=f.1.size) rfl);have L3:=L.keep (w':=setBlock Q f.1.size (.mapIter (some m) clock (d.push e.born) clock)) λk hk h=>T3.block k hk (a6 k h)
    have u:(setBlock Q f.1.size (.mapIter (some m) clock (d.push e.born) clock)).1[f.1.size]?=some (.mapIter (some m) clock (d.push e.born) clock):=q1s (by omega);have a1:=run_entry_at (P:=Tryz.prog) _ f.1.size m clock d l.toArray clock e u L3.map (by simpa using p) (by simpa using L.ents.born);rw[a4,a8,b2] at J a1;have H3:=qm1 L3 s hs (D'.Zu s).length (Nat.le_refl _);have a9:qad wr m=l.length:=qc3 L.map;go_wp2_with fail
    refine H3.mono ?_;rintro e5 w5 ⟨rfl,L5,T5⟩;have Y:Turn (λk=>S k/\k<f.1.size) (setBlock Q f.1.size (.mapIter (some m) clock (d.push e.born) clock)) w5:=T5.mono λx K=>by rcases K with h|h;exact h▸L.Yj.2.1;exact h▸L.Yj.2.2.1
    have a3:w5.1[f.1.size]?=some (.mapIter (some m) clock (d.push e.born) clock):=(Y.block _ (Wx u) (λh=>a6 _ h rfl)).trans u;have I:∀x∈Xp (s:Int) l,(d.push e.born).contains x.born=false:=λx K=>by
     rw[contains_push,y x (q6c K),Bool.false_or,beq_eq_false_iff_ne];intro hb;have b3:=born_inj L.ents.born (q6c K) p hb;subst b3;have h1:=q45 (L.ents.del (s:Int)).one K;rw[q9g _ L.ents.one,G,if_pos rfl] at h1
     cases h1
    have a5:qad w5 m=l.length-1:=by
     rw[qc3 L5.map,qc6,if_neg (by rw[L.look s,if_neg M];simp)]
    have b4:0<l.length:=List.length_pos_iff.2 λh=>by rw[h] at p;cases p
    go_wp2_with fail
    have T6:Turn (λk=>S k/\k<f.1.size) f w5:=(T.trans T3 (λx K=>.inr (by omega))).then Y;exact⟨⟨_,_,_,_,L5,F.settle s M,a3,I,T6⟩,by rw[a5,a9];omega⟩
end
inductive Stp where
 |w (s:Nat) (x:List UInt8)
 |fl
def Stp.ok (n:Nat):Stp->Prop
 |.w s x=>s<n/\x.length=256
 |.fl=>True
def DM.does (D:DM):Stp->DM
 |.w s x=>D.Yr s x
 |.fl=>D.Y9
def DM.says (D:DM):Stp->Int
 |.w s x=>D.Zm s x
 |.fl=>D.err
def DM.Jj (D:DM):List Stp->Int
 |[]=>0
 |a::l=>if D.says a=0 then (D.does a).Jj l else D.says a
def DM.Qx (D:DM):List Stp->DM
 |[]=>D
 |a::l=>if D.says a=0 then (D.does a).Qx l else D.does a
theorem q43 (a b:List Stp):∀D:DM,D.Jj (a++b)=if D.Jj a=0 then (D.Qx a).Jj b else D.Jj a:=by
 induction a with
 |nil=>intro D;simp[DM.Jj,DM.Qx]
 |cons x a ih=>
  intro D;show (if D.says x=0 then (D.does x).Jj (a++b) else D.says x)=_;by_cases h:D.says x=0
  ·rw[if_pos h,ih];simp only[DM.Jj,DM.Qx,if_pos h]
  ·simp only[DM.Jj,if_neg h]
theorem q44 (a b:List Stp):∀D:DM,D.Qx (a++b)=if D.Jj a=0 then (D.Qx a).Qx b else D.Qx a:=by
 induction a with
 |nil=>intro D;simp[DM.Jj,DM.Qx]
 |cons x a ih=>
  intro D;show (if D.says x=0 then (D.does x).Qx (a++b) else D.does x)=_;by_cases h:D.says x=0
  ·rw[if_pos h,ih];simp only[DM.Jj,DM.Qx,if_pos h]
  ·simp only[DM.Jj,DM.Qx,if_neg h]
structure Mem where
 Xk:Nat->List UInt8
 Zu:Nat->List (List UInt8)
def DM.mem (D:DM):Mem:=⟨D.Xk,D.Zu⟩
def Mem.newest (M:Mem)(s:Nat):List UInt8:=(M.Zu s).getLastD (M.Xk s)
def Mem.go (M:Mem):Stp->Mem
 |.w s x=>⟨M.Xk,upd M.Zu s (M.Zu s++[x])⟩
 |.fl=>⟨M.newest,λ_=>[]⟩
def Mem.gos (M:Mem):List Stp->Mem
 |[]=>M
 |a::l=>(M.go a).gos l
theorem qc4 (a b:List Stp):∀M:Mem,M.gos (a++b)=(M.gos a).gos b:=by
 induction a with
 |nil=>intro M;rfl
 |cons x a ih=>intro M;exact ih _
theorem qws {D:DM}{a:Stp}(d:a.ok D.n)(h:D.stop=false):D.says a=0/\(D.does a).mem=D.mem.go a/\(D.does a).n=D.n/\(D.does a).cap=D.cap/\(D.does a).off=false/\(D.does a).fused=D.fused/\(D.does a).left=(if D.fused then D.left-1 else D.left)/\(D.does a).steps=D.steps+1:=by
 have b:D.stepD={ D with off:=false,left:=if D.fused then D.left-1 else D.left,steps:=D.steps+1 }:=by unfold DM.stepD;rw[h];rfl
 cases a with
 |w s x=>
  have e:D.bad s x=false:=by unfold DM.bad;exact decide_eq_false (by rintro (h1|h1);exact h1 ⟨by omega,by have:=d.1;omega⟩;exact h1 d.2)
  refine⟨by show D.Zm s x=0;unfold DM.Zm DM.err;rw[e,h];rfl,?_⟩;have:D.does (.w s x)={ D.stepD with Zu:=upd D.Zu s (D.Zu s++[x]) }:=by
   show D.Yr s x=_;unfold DM.Yr;rw[e,h];rfl
  rw[this,b];exact⟨rfl,rfl,rfl,rfl,rfl,rfl,rfl⟩
 |fl=>
  refine⟨by show D.err=0;unfold DM.err;rw[h];rfl,?_⟩;have:D.does .fl=D.stepD.flush:=by
   show D.Y9=_;unfold DM.Y9;rw[h];rfl
  rw[this,b];exact⟨rfl,rfl,rfl,rfl,rfl,rfl,rfl⟩
theorem qow {D:DM}{a:Stp}(d:a.ok D.n)(h:D.stop=true):D.says a=4/\(D.does a).mem=D.mem/\(D.does a).n=D.n/\(D.does a).cap=D.cap/\(D.does a).off=true/\(D.does a).fused=D.fused/\(D.does a).left=D.left/\(D.does a).steps=D.steps:=by
 have b:D.stepD={ D with off:=true,left:=D.left,steps:=D.steps }:=by unfold DM.stepD;rw[h];rfl
 cases a with
 |w s x=>
  have e:D.bad s x=false:=by unfold DM.bad;exact decide_eq_false (by rintro (h1|h1);exact h1 ⟨by omega,by have:=d.1;omega⟩;exact h1 d.2)
  refine⟨by show D.Zm s x=4;unfold DM.Zm DM.err;rw[e,h];rfl,?_⟩;have:D.does (.w s x)=D.stepD:=by
   show D.Yr s x=_;unfold DM.Yr;rw[e,h];rfl
  rw[this,b];exact⟨rfl,rfl,rfl,rfl,rfl,rfl,rfl⟩
 |fl=>
  refine⟨by show D.err=4;unfold DM.err;rw[h];rfl,?_⟩;have:D.does .fl=D.stepD:=by
   show D.Y9=_;unfold DM.Y9;rw[h];rfl
  rw[this,b];exact⟨rfl,rfl,rfl,rfl,rfl,rfl,rfl⟩
def DM.room (D:DM)(m:Nat):Nat:=if D.off then 0 else if D.fused then min D.left m else m
theorem qwt (D:DM)(m:Nat):D.room m<=m:=by unfold DM.room;split;omega;split<;>omega
theorem qth (l:List Stp):∀D:DM,(∀a∈l,a.ok D.n)->
  (D.Qx l).mem=D.mem.gos (l.take (D.room l.length))/\(D.Qx l).n=D.n/\(D.Qx l).cap=D.cap/\(D.Qx l).fused=D.fused/\(D.Qx l).steps=D.steps+D.room l.length/\(D.Qx l).left=(if D.fused then D.left-D.room l.length else D.left)/\
   ((D.room l.length=l.length/\D.Jj l=0/\(D.Qx l).off=D.off)\/(D.room l.length<l.length/\D.Jj l=4/\(D.Qx l).off=true)):=by
 induction l with
 |nil=>
  intro D _;have p:D.room 0=0:=Nat.le_zero.1 (qwt D 0);show D.mem=D.mem.gos (List.take (D.room 0) [])/\_;rw[show ([]:List Stp).length=0 from rfl,p];exact⟨rfl,rfl,rfl,rfl,rfl,by split<;>rfl,.inl ⟨rfl,rfl,rfl⟩⟩
 |cons a l ih=>
  intro D d;have O:=d a (List.mem_cons_self ..)
  cases h:D.stop with
  |true=>
   obtain⟨f,G,u,I,y,m,E,J⟩:=qow O h;have p:D.room (a::l).length=0:=by
    unfold DM.stop at h;unfold DM.room
    cases e:D.off with
    |true=>rfl
    |false=>
     rw[e,Bool.false_or,Bool.and_eq_true,decide_eq_true_iff] at h;rw[h.1,h.2];simp
   have K:D.Qx (a::l)=D.does a:=by show (if D.says a=0 then _ else _)=_;rw[if_neg (by rw[f];decide)]
   have M:D.Jj (a::l)=4:=by show (if D.says a=0 then _ else _)=_;rw[if_neg (by rw[f];decide),f]
   rw[K,M,p];exact⟨G,u,I,m,J,by rw[E];split<;>rfl,.inr ⟨by simp,rfl,y⟩⟩
  |false=>
   obtain⟨f,G,u,I,y,m,E,J⟩:=qws O h;have e:D.off=false:=by unfold DM.stop at h;cases e:D.off with|true=>rw[e] at h;simp at h|false=>rfl
   have R:D.fused=true->0<D.left:=λF=>by
    unfold DM.stop at h;rw[e,F] at h;simp at h;omega
   have K:D.Qx (a::l)=(D.does a).Qx l:=by show (if D.says a=0 then _ else _)=_;rw[if_pos f]
   have M:D.Jj (a::l)=(D.does a).Jj l:=by show (if D.says a=0 then _ else _)=_;rw[if_pos f]
   have p:D.room (a::l).length=(D.does a).room l.length+1:=by
    unfold DM.room;rw[e,y,m,E]
    cases F:D.fused with
    |true=>have:=R F;simp;omega
    |false=>simp
   obtain⟨T,U,Y,Z,i5,i6,i7⟩:=ih (D.does a) (λb Q=>by rw[u];exact d b (List.mem_cons_of_mem _ Q));rw[K,M,p];refine⟨by rw[T,G];rfl,U.trans u,Y.trans I,Z.trans m,by rw[i5,J];omega,?_,?_⟩
   ·rw[i6,m,E]
    cases F:D.fused with
    |true=>simp;omega
    |false=>simp
   ·rw[e];rcases i7 with⟨j1,j2,j3⟩|⟨j1,j2,j3⟩
    ·exact .inl ⟨by simp[j1],j2,j3.trans y⟩
    ·exact .inr ⟨by simp;exact j1,j2,j3⟩
def Y3 (s:Nat):List Stp->List UInt8->List UInt8
 |[],d=>d
 |.w t x::l,d=>Y3 s l (if t=s then x else d)
 |.fl::l,d=>Y3 s l d
theorem qfi (M:Mem)(a:Stp)(s:Nat):(M.go a).newest s=(match a with|.w t x=>if t=s then x else M.newest s|.fl=>M.newest s):=by
 cases a with
 |w t x=>
  show (upd M.Zu t (M.Zu t++[x]) s).getLastD (M.Xk s)=if t=s then x else _
  by_cases h:t=s
  ·subst h;rw[q0n,if_pos rfl];simp[List.getLastD_eq_getLast?]
  ·rw[Ag _ _ (λe=>h e.symm),if_neg h];rfl
 |fl=>rfl
theorem q7z (s:Nat):∀(l:List Stp) (M:Mem),(M.gos l).newest s=Y3 s l (M.newest s)
 |[],M=>rfl
 |.w t x::l,M=>by
  show ((M.go (.w t x)).gos l).newest s=Y3 s l (if t=s then x else M.newest s);rw[q7z s l,qfi]
 |.fl::l,M=>by
  show ((M.go .fl).gos l).newest s=Y3 s l (M.newest s);rw[q7z s l,qfi]
theorem q0r (s:Nat):∀(a b:List Stp) (d:List UInt8),Y3 s (a++b) d=Y3 s b (Y3 s a d)
 |[],_,_=>rfl
 |.w _ _::a,b,_=>q0r s a b _
 |.fl::a,b,_=>q0r s a b _
def spares (s:Nat)(l:List Stp):Prop:=∀t x,Stp.w t x∈l->t≠s
theorem q35 {s:Nat}:∀{l:List Stp} (_:spares s l) (d:List UInt8),Y3 s l d=d
 |[],_,_=>rfl
 |.w t x::l,h,d=>by
  show Y3 s l (if t=s then x else d)=d;rw[if_neg (h t x (List.mem_cons_self ..))];exact q35 (λt x b=>h t x (List.mem_cons_of_mem _ b)) d
 |.fl::l,h,d=>q35 (l:=l) (λt x b=>h t x (List.mem_cons_of_mem _ b)) d
def Mem.may (M:Mem)(s:Nat)(x:List UInt8):Prop:=x=M.Xk s\/x∈M.Zu s
def Me (A:List Stp)(slot:Nat)(b:List UInt8):List Stp:=A++.fl::[.w slot b,.fl]
def Fh (at_:Nat)(l:List (List UInt8)):List Stp:=(List.range l.length).map λi=>.w (at_+i) (l.getD i [])
theorem qi4 (at_:Nat)(l:List (List UInt8)):(Fh at_ l).length=l.length:=by unfold Fh;simp
theorem qox {at_:Nat}{l:List (List UInt8)}{s:Nat}{x:List UInt8}(h:Stp.w s x∈Fh at_ l):∃i,i<l.length/\s=at_+i/\x=l.getD i []:=by
 unfold Fh at h;rw[List.mem_map] at h;obtain⟨i,f,e⟩:=h;injection e with b d;exact⟨i,List.mem_range.1 f,b.symm,d.symm⟩
theorem qm9 {at_:Nat}{l:List (List UInt8)}{s:Nat}(h:s<at_\/at_+l.length<=s):spares s (Fh at_ l):=λt x b=>by
 obtain⟨i,d,e,_⟩:=qox b;omega
theorem qfj (g:Nat->List UInt8)(at_:Nat):∀(k i:Nat) (d:List UInt8),Y3 (at_+i) ((List.range k).map λi=>Stp.w (at_+i) (g i)) d=if i<k then g i else d
 |0,i,d=>rfl
 |k+1,i,d=>by
  rw[List.range_succ,List.map_append,q0r,qfj g at_ k i d];show (if at_+k=at_+i then g k else _)=_;by_cases h:i=k
  ·subst h;rw[if_pos rfl,if_pos (by omega)]
  ·rw[if_neg (by omega)];by_cases h2:i<k
   ·rw[if_pos h2,if_pos (by omega)]
   ·rw[if_neg h2,if_neg (by omega)]
theorem qoy (at_:Nat)(l:List (List UInt8))(i:Nat)(d:List UInt8)(h:i<l.length):Y3 (at_+i) (Fh at_ l) d=l.getD i []:=by
 unfold Fh;rw[qfj,if_pos h]
theorem qti (at_:Nat)(b:List (List UInt8)){j:Nat}(d:j<b.length):(Fh at_ b).take (j+1)=(Fh at_ b).take j++[.w (at_+j) (b.getD j [])]:=by
 have e:j<(Fh at_ b).length:=by rw[qi4];exact d
 rw[List.take_add_one,List.getElem?_eq_getElem e];have:(Fh at_ b)[j]=.w (at_+j) (b.getD j []):=by simp[Fh]
 rw[this];rfl
structure Kp (B:Nat)(X:Nat->Prop)(w w':World):Prop where
 os:w'.os=w.os
 tape:w'.tape=w.tape
 output:w'.output=w.output
 size:w.heap.size<=w'.heap.size
 block:∀k,k<w.heap.size->(k<B\/X k)->w'.heap[k]?=w.heap[k]?
section
variable {B:Nat}{X X':Nat->Prop}{w w' w'':World}
theorem Kp.trans (h:Kp B X w w')(k:Kp B X w' w''):Kp B X w w'':=
 ⟨k.os.trans h.os,k.tape.trans h.tape,k.output.trans h.output,Nat.le_trans h.size k.size,λi b d=>(k.block i (Nat.lt_of_lt_of_le b h.size) d).trans (h.block i b d)⟩
theorem Kp.mono (h:Kp B X w w')(hs:∀x,x<w.1.size->X' x->X x):Kp B X' w w':=⟨h.os,h.tape,h.output,h.size,λk b d=>h.block k b (d.imp id (hs k b))⟩
theorem Kp.sl {A:Option Addr}{n c:Nat}{l:List UInt8}(h:Kp B X w w')(s:Sl w A n c l)(ha:∀b,A=some b->b.block<B\/X b.block):Sl w' A n c l:=
 ⟨s.1,s.2.1,s.2.2.1,λj u m=>by
  obtain⟨b,e,d,f⟩:=s.2.2.2 j u m;refine⟨b,e,by have:=h.size;omega,?_⟩;exact (World.cell?_of_block (w:=w) (w':=w') (a:=b.add j) (by rw[Nl];exact h.block _ d (ha b e))).trans f⟩
theorem Kp.cell {p:Addr}(h:Kp B X w w')(hp:p.block<w.1.size)(hx:p.block<B\/X p.block):w'.cell? p=w.cell? p:=World.cell?_of_block (w:=w) (h.block p.block hp hx)
end
section
variable {B:Nat}{X X':Nat->Prop}{w w':World}{A:Option Addr}{n:Nat}{l:List UInt8}
end
section
variable {B:Nat}{X:Nat->Prop}{w w':World}{bp:Nat}{D D':DM}
theorem Vp.keep {S:Nat->Prop}(h:Vp w bp S D)(hk:∀k,k<w.1.size->S k->w'.1[k]?=w.1[k]?):Vp w' bp S D:=by
 obtain⟨b,d,l,c,v,L⟩:=h;exact⟨b,d,l,c,v,L.keep hk⟩
theorem Vp.mono {S S':Nat->Prop}(h:Vp w bp S D)(hk:∀k,k<w.1.size->S k->S' k):Vp w bp S' D:=by
 obtain⟨b,d,l,c,v,L⟩:=h;exact⟨b,d,l,c,v,L.mono hk⟩
def DM.ok (D:DM)(m:Nat):Prop:=D.steps<=m/\∀k,(D.Zu k).length<=m
theorem DM.ok.mono {D:DM}{m m':Nat}(h:D.ok m)(hm:m<=m'):D.ok m':=⟨by have:=h.1;omega,λk=>by have:=h.2 k;omega⟩
end
section
open Go.ChangeShapes Go.WideShapes Go.ChangeAt
def i64 (z:Int):Prop:=-9223372036854775808<=z/\z<=9223372036854775807
section
variable {H:Type}{enc:TypeId × Value->H}{P:Program}{W:World}
end
section
variable {w w':World}{A:Option Addr}{n c:Nat}{ps:List (Int × Int)}
end
end
