/- Crash: each sector with cached writes is settled as what is kept tells, from the first on -/
import Derived.Test.YtnnbaihfboacoaaGreatDoorEu15
import Derived.BigQuiet
import Derived.Deep.QuietTactic
namespace Go.Proofs.YtnnbaihfboacoaaGreatDoor
open Go Go.RowKit Go.Proofs
set_option maxHeartbeats 2000000
set_option maxRecDepth 100000
section
open Go.ChangeMaps (setBlock)
def Ints (w:World)(A:Option Addr)(n c:Nat)(zs:List Int):Prop:=Holds w w.1.size A n c (zs.map (Value.int .i64))/\∀z∈zs,-9223372036854775808<=z/\z<=9223372036854775807
section
variable {w w':World}{A:Option Addr}{n c:Nat}{zs:List Int}{S:Nat->Prop}
theorem Ints.len (h:Ints w A n c zs):zs.length=n:=by simpa using h.1.1
theorem Ints.cap (h:Ints w A n c zs):n<=c:=h.1.2.1
theorem Ints.max (h:Ints w A n c zs):c<=maxLen:=h.1.2.2.1
theorem Ints.range (h:Ints w A n c zs):-9223372036854775808<=zs.headD 0/\zs.headD 0<=9223372036854775807:=by
 rcases zs with _|⟨z,r⟩
 ·simp
 ·exact h.2 z (by simp)
end
end
section
open Go.ChangeMaps (setBlock)
def DM.flush (D:DM):DM:={ D with Jp:=D.newest,Zp:=λ_=>[] }
def DM.Wl (D:DM):DM:=if D.stop then D.stepD else D.stepD.flush
structure Fl (D D':DM):Prop where
 n:D'.n=D.n
 off:D'.off=D.off
 fused:D'.fused=D.fused
 left:D'.left=D.left
 steps:D'.steps=D.steps
 cap:D'.cap=D.cap
 at_:∀s,(D'.Zp s=D.Zp s/\D'.Jp s=D.Jp s)\/(D'.Zp s=[]/\D'.Jp s=D.newest s)
theorem Fl.refl (D:DM):Fl D D:=⟨rfl,rfl,rfl,rfl,rfl,rfl,λ_=>.inl ⟨rfl,rfl⟩⟩
theorem qnl {α:Type}(l:List α)(a d:α)(h:l≠[]):l.getD (l.length-1) d=l.getLastD a:=by
 have h0:0<l.length:=List.length_pos_iff.2 h;rw[List.getD_eq_getElem?_getD,List.getElem?_eq_getElem (by omega),List.getLastD_eq_getLast?,List.getLast?_eq_some_getLast h,List.getLast_eq_getElem];rfl
theorem Fl.settle {D D':DM}(h:Fl D D')(s:Nat)(hs:D'.Zp s≠[]):Fl D (D'.settle s (D'.Zp s).length):=by
 have h0:(D'.Zp s).length≠0:=λe=>hs (List.eq_nil_of_length_eq_zero e)
 refine⟨h.n,h.off,h.fused,h.left,h.steps,h.cap,λz=>?_⟩;have hd:(D'.settle s (D'.Zp s).length).Jp=upd D'.Jp s ((D'.Zp s).getD ((D'.Zp s).length-1) []):=by unfold DM.settle;rw[if_neg h0]
 by_cases b:z=s
 ·right
  subst b;refine⟨Aw _ _ _,?_⟩;rw[hd,Aw];rcases h.at_ z with⟨h1,h2⟩|⟨h1,_⟩
  ·rw[qnl _ (D'.Jp z) _ hs,h1,h2];rfl
  ·exact absurd h1 hs
 ·rw[hd];show (upd D'.Zp s [] z=D.Zp z/\upd D'.Jp s _ z=D.Jp z)\/(upd D'.Zp s [] z=[]/\upd D'.Jp s _ z=D.newest z);rw[Ar _ _ b,Ar _ _ b];exact h.at_ z
theorem Fl.done {D D':DM}(h:Fl D D')(hc:∀s,D'.Zp s=[]):D'=D.flush:=by
 obtain⟨n,Jp,Zp,off,fused,left,steps,cap⟩:=D';obtain⟨h1,h2,f,m,p,y,u⟩:=h;simp only at h1 h2 f m p u y hc;subst h1 h2 f m p y;have d:Zp=λ_=>[]:=funext hc
 have e:Jp=D.newest:=funext λs=>by
  rcases u s with⟨a,b⟩|⟨_,b⟩
  ·rw[b];unfold DM.newest;rw[<-a,hc s];rfl
  ·exact b
 subst d e;rfl
theorem Lay.tight {w:World}{bp bd bm clock:Nat}{l:List MapEntry}{v:Nat->Value}{S:Nat->Prop}{D:DM}(L:Lay w bp bd bm l clock v S D):Lay w bp bd bm l clock v (λk=>S k/\k<w.1.size) D:=L.mono λ_ h1 h2=>⟨h2,h1⟩
def q9o (w:World)(b:Nat):Nat:=match w.1[b]? with|some (.map es _)=>es.size|_=>0
theorem qbx {w:World}{b clock:Nat}{l:List MapEntry}(h:w.1[b]?=some (.map l.toArray clock)):q9o w b=l.length:=by unfold q9o;rw[h];simp
theorem qnm {w:World}{bp:Nat}{S:Nat->Prop}{D:DM}(L0:Y9 w bp S D)(b6:D.steps<=1000000000)(_:∀k,(D.Zp k).length<=1000000) :
  Calls Tryz.prog 81 #[.pointer (some ⟨bp,0,none⟩)] w λe w'=>e=.returned (.int .i64 D.err)/\Y9 w' bp S D.Wl/\Turn S w w':=by
 obtain⟨bd,m,l,clock,v,L⟩:=L0;have R:=qla L b6;have b2:∀k,k=bp->S k:=λk e=>e▸L.Xu.1
 unfold DM.Wl;unfold DM.err at R ⊢
 cases E:D.stop with
 |true=>
  rw[E] at R;go_enter Tryz.func81,Tryz.ntmps81
  go_wp2_with fail
  refine R.mono ?_;rintro e f ⟨rfl,U,T1⟩;go_wp2_with fail
  go_ret;exact⟨rfl,⟨_,_,_,_,_,U⟩,T1.mono b2⟩
 |false=>
  rw[E] at R;go_enter Tryz.func81,Tryz.ntmps81
  go_wp2_with fail
  refine R.mono ?_;rintro e f ⟨rfl,U,T1⟩;have c1:=U.c1;have b5:=run_range_map (P:=Tryz.prog) f 105 _ _ m l.toArray clock Tryz.underlying105 U.map;go_wp2_with fail
  have b1:∀k,(S k/\k<f.1.size)->k≠f.1.size:=λk h=>by omega
  have Z:Turn (λk=>S k/\k<f.1.size) f (f.alloc (Obj.mapIter (some m) clock #[] clock)):=qm6 _ _ _;go_loopw [4] (λ_ wr=>∃(l:List MapEntry) (v:Nat->Value) (D':DM) (d:Array Nat),Lay wr bp bd m l clock v (λk=>S k/\k<f.1.size) D'/\Fl D.stepD D'/\wr.1[f.1.size]?=some (.mapIter (some m) clock d clock)/\(∀e∈l,d.contains e.born=false)/\
   Turn (λk=>S k/\k<f.1.size) f wr) (λ_ wr=>q9o wr m)
  case atStart=>exact⟨l,v,D.stepD,#[],U.tight.keep λk hk _=>heap_alloc_old f _ hk,Fl.refl _,heap_alloc_new f _,λ_ _=>by simp,Z⟩
  case round=>
   clear c1 b5 Z;obtain⟨l,v,D',d,L,F,a6,y,T⟩:=hrel;have hE:leftOf l.toArray d=l.toArray:=by
    unfold leftOf;rw[Array.filter_eq_self];intro e p;rw[y e (by simpa using p)];rfl
   rcases run_next_at (P:=Tryz.prog) wr 0 f.1.size m clock clock d l.toArray clock a6 L.map (λx K=>L.ents.clock x (by simpa using K)) (Nat.le_refl _) with⟨h0,J⟩|⟨e,p,Q,a1,J⟩
   ·rw[hE] at h0;obtain rfl:l=[]:=List.eq_nil_of_length_eq_zero (by simpa using h0);have O:D'=D.stepD.flush:=F.done λs=>by
     have:=L.look s;unfold Zf at this;by_cases h:D'.Zp s=[]
     ·exact h
     ·rw[if_neg h] at this;cases this
    subst O;go_wp2_with fail
    go_ret;exact⟨rfl,⟨_,_,_,_,_,L.mono λ_ _ h=>h.1⟩,(T1.mono b2).then (T.mono λ_ h=>h.1)⟩
   ·rw[hE] at p;have p:e∈l:=by simpa using p
    obtain⟨s,hs,G⟩:=L.keys e p;have M:D'.Zp s≠[]:=λh=>by
     have h1:=L.look s;rw[if_pos h,<-G,q2t L.ents.one p] at h1;cases h1
    have b3:e.val=v s:=by
     have h1:=L.look s;rw[if_neg M,<-G,q2t L.ents.one p] at h1;exact Option.some.inj h1
    have a8:e.key=.int .i64 (s:Int):=by rw[L.ents.key e p,G]
    obtain⟨A0,c0,b7,_⟩:=qjs (L.row s);have c6:f.1.size<wr.1.size:=Wi a6;have c7:Q.1.size=wr.1.size:=by rcases a1 with rfl|rfl<;>rfl
    have T2:Turn (λk=>k=f.1.size) wr Q:=by
     rcases a1 with rfl|rfl
     ·exact Turn.refl _ _
     ·exact (Turn.refl _ _).drew
    have T3:=T2.then (q0p (w:=Q) (.mapIter (some m) clock (d.push e.born) clock) (b:=f.1.size) (S:=λk=>k=f.1.size) rfl);have L3:=L.keep (w':=setBlock Q f.1.size (.mapIter (some m) clock (d.push e.born) clock)) λk hk h=>T3.block k hk (b1 k h)
    have u:(setBlock Q f.1.size (.mapIter (some m) clock (d.push e.born) clock)).1[f.1.size]?=some (.mapIter (some m) clock (d.push e.born) clock):=q27 (by omega);have a2:=run_entry_at (P:=Tryz.prog) _ f.1.size m clock d l.toArray clock e u L3.map (by simpa using p) (by simpa using L.ents.born);rw[a8,b3,b7] at J a2;have H3:=qnb L3 s hs (D'.Zp s).length (Nat.le_refl _);have b4:q9o wr m=l.length:=qbx L.map;go_wp2_with fail
    refine H3.mono ?_;rintro e5 w5 ⟨rfl,L5,T5⟩;have Y:Turn (λk=>S k/\k<f.1.size) (setBlock Q f.1.size (.mapIter (some m) clock (d.push e.born) clock)) w5:=T5.mono λx K=>by rcases K with h|h;exact h▸L.Xu.2.1;exact h▸L.Xu.2.2.1
    have a7:w5.1[f.1.size]?=some (.mapIter (some m) clock (d.push e.born) clock):=(Y.block _ (Wi u) (λh=>b1 _ h rfl)).trans u;have I:∀x∈Xw (s:Int) l,(d.push e.born).contains x.born=false:=λx K=>by
     rw[contains_push,y x (q65 K),Bool.false_or,beq_eq_false_iff_ne];intro hb;have b8:=born_inj L.ents.born (q65 K) p hb;subst b8;have h1:=q2t (L.ents.del (s:Int)).one K;rw[q90 _ L.ents.one,G,if_pos rfl] at h1
     cases h1
    have b0:q9o w5 m=l.length-1:=by
     rw[qbx L5.map,qbv,if_neg (by rw[L.look s,if_neg M];simp)]
    have b9:0<l.length:=List.length_pos_iff.2 λh=>by rw[h] at p;cases p
    go_wp2_with fail
    have T6:Turn (λk=>S k/\k<f.1.size) f w5:=(T.trans T3 (λx K=>.inr (by omega))).then Y;exact⟨⟨_,_,_,_,L5,F.settle s M,a7,I,T6⟩,by rw[b0,b4];omega⟩
end
inductive Stp where
 |w (s:Nat) (x:List UInt8)
 |fl
def Stp.ok (n:Nat):Stp->Prop
 |.w s x=>s<n/\x.length=256
 |.fl=>True
def DM.does (D:DM):Stp->DM
 |.w s x=>D.Yz s x
 |.fl=>D.Wl
def DM.says (D:DM):Stp->Int
 |.w s x=>D.Zk s x
 |.fl=>D.err
def DM.Zy (D:DM):List Stp->Int
 |[]=>0
 |a::l=>if D.says a=0 then (D.does a).Zy l else D.says a
def DM.Qk (D:DM):List Stp->DM
 |[]=>D
 |a::l=>if D.says a=0 then (D.does a).Qk l else D.does a
theorem q2v (a b:List Stp):∀D:DM,D.Zy (a++b)=if D.Zy a=0 then (D.Qk a).Zy b else D.Zy a:=by
 induction a with
 |nil=>intro D;simp[DM.Zy,DM.Qk]
 |cons x a ih=>
  intro D;show (if D.says x=0 then (D.does x).Zy (a++b) else D.says x)=_;by_cases h:D.says x=0
  ·rw[if_pos h,ih];simp only[DM.Zy,DM.Qk,if_pos h]
  ·simp only[DM.Zy,if_neg h]
theorem q2w (a b:List Stp):∀D:DM,D.Qk (a++b)=if D.Zy a=0 then (D.Qk a).Qk b else D.Qk a:=by
 induction a with
 |nil=>intro D;simp[DM.Zy,DM.Qk]
 |cons x a ih=>
  intro D;show (if D.says x=0 then (D.does x).Qk (a++b) else D.does x)=_;by_cases h:D.says x=0
  ·rw[if_pos h,ih];simp only[DM.Zy,DM.Qk,if_pos h]
  ·simp only[DM.Zy,DM.Qk,if_neg h]
structure Mem where
 Jp:Nat->List UInt8
 Zp:Nat->List (List UInt8)
def DM.mem (D:DM):Mem:=⟨D.Jp,D.Zp⟩
def Mem.newest (M:Mem)(s:Nat):List UInt8:=(M.Zp s).getLastD (M.Jp s)
def Mem.go (M:Mem):Stp->Mem
 |.w s x=>⟨M.Jp,upd M.Zp s (M.Zp s++[x])⟩
 |.fl=>⟨M.newest,λ_=>[]⟩
def Mem.Ox (M:Mem):List Stp->Mem
 |[]=>M
 |a::l=>(M.go a).Ox l
theorem q7i (a b:List Stp):∀M:Mem,M.Ox (a++b)=(M.Ox a).Ox b:=by
 induction a with
 |nil=>intro M;rfl
 |cons x a ih=>intro M;exact ih _
theorem qvr {D:DM}{a:Stp}(d:a.ok D.n)(h:D.stop=false):D.says a=0/\(D.does a).mem=D.mem.go a/\(D.does a).n=D.n/\(D.does a).cap=D.cap/\(D.does a).off=false/\(D.does a).fused=D.fused/\(D.does a).left=(if D.fused then D.left-1 else D.left)/\(D.does a).steps=D.steps+1:=by
 have b:D.stepD={ D with off:=false,left:=if D.fused then D.left-1 else D.left,steps:=D.steps+1 }:=by unfold DM.stepD;rw[h];rfl
 cases a with
 |w s x=>
  have e:D.bad s x=false:=by unfold DM.bad;exact decide_eq_false (by rintro (h1|h1);exact h1 ⟨by omega,by have:=d.1;omega⟩;exact h1 d.2)
  refine⟨by show D.Zk s x=0;unfold DM.Zk DM.err;rw[e,h];rfl,?_⟩;have:D.does (.w s x)={ D.stepD with Zp:=upd D.Zp s (D.Zp s++[x]) }:=by
   show D.Yz s x=_;unfold DM.Yz;rw[e,h];rfl
  rw[this,b];exact⟨rfl,rfl,rfl,rfl,rfl,rfl,rfl⟩
 |fl=>
  refine⟨by show D.err=0;unfold DM.err;rw[h];rfl,?_⟩;have:D.does .fl=D.stepD.flush:=by
   show D.Wl=_;unfold DM.Wl;rw[h];rfl
  rw[this,b];exact⟨rfl,rfl,rfl,rfl,rfl,rfl,rfl⟩
theorem qnn {D:DM}{a:Stp}(d:a.ok D.n)(h:D.stop=true):D.says a=4/\(D.does a).mem=D.mem/\(D.does a).n=D.n/\(D.does a).cap=D.cap/\(D.does a).off=true/\(D.does a).fused=D.fused/\(D.does a).left=D.left/\(D.does a).steps=D.steps:=by
 have b:D.stepD={ D with off:=true,left:=D.left,steps:=D.steps }:=by unfold DM.stepD;rw[h];rfl
 cases a with
 |w s x=>
  have e:D.bad s x=false:=by unfold DM.bad;exact decide_eq_false (by rintro (h1|h1);exact h1 ⟨by omega,by have:=d.1;omega⟩;exact h1 d.2)
  refine⟨by show D.Zk s x=4;unfold DM.Zk DM.err;rw[e,h];rfl,?_⟩;have:D.does (.w s x)=D.stepD:=by
   show D.Yz s x=_;unfold DM.Yz;rw[e,h];rfl
  rw[this,b];exact⟨rfl,rfl,rfl,rfl,rfl,rfl,rfl⟩
 |fl=>
  refine⟨by show D.err=4;unfold DM.err;rw[h];rfl,?_⟩;have:D.does .fl=D.stepD:=by
   show D.Wl=_;unfold DM.Wl;rw[h];rfl
  rw[this,b];exact⟨rfl,rfl,rfl,rfl,rfl,rfl,rfl⟩
def DM.room (D:DM)(m:Nat):Nat:=if D.off then 0 else if D.fused then min D.left m else m
theorem qvs (D:DM)(m:Nat):D.room m<=m:=by unfold DM.room;split;omega;split<;>omega
theorem qse (l:List Stp):∀D:DM,(∀a∈l,a.ok D.n)->
  (D.Qk l).mem=D.mem.Ox (l.take (D.room l.length))/\(D.Qk l).n=D.n/\(D.Qk l).cap=D.cap/\(D.Qk l).fused=D.fused/\(D.Qk l).steps=D.steps+D.room l.length/\(D.Qk l).left=(if D.fused then D.left-D.room l.length else D.left)/\
   ((D.room l.length=l.length/\D.Zy l=0/\(D.Qk l).off=D.off)\/(D.room l.length<l.length/\D.Zy l=4/\(D.Qk l).off=true)):=by
 induction l with
 |nil=>
  intro D _;have p:D.room 0=0:=Nat.le_zero.1 (qvs D 0);show D.mem=D.mem.Ox (List.take (D.room 0) [])/\_;rw[show ([]:List Stp).length=0 from rfl,p];exact⟨rfl,rfl,rfl,rfl,rfl,by split<;>rfl,.inl ⟨rfl,rfl,rfl⟩⟩
 |cons a l ih=>
  intro D d;have O:=d a (List.mem_cons_self ..)
  cases h:D.stop with
  |true=>
   obtain⟨f,G,u,I,y,m,E,J⟩:=qnn O h;have p:D.room (a::l).length=0:=by
    unfold DM.stop at h;unfold DM.room
    cases e:D.off with
    |true=>rfl
    |false=>
     rw[e,Bool.false_or,Bool.and_eq_true,decide_eq_true_iff] at h;rw[h.1,h.2];simp
   have K:D.Qk (a::l)=D.does a:=by show (if D.says a=0 then _ else _)=_;rw[if_neg (by rw[f];decide)]
   have M:D.Zy (a::l)=4:=by show (if D.says a=0 then _ else _)=_;rw[if_neg (by rw[f];decide),f]
   rw[K,M,p];exact⟨G,u,I,m,J,by rw[E];split<;>rfl,.inr ⟨by simp,rfl,y⟩⟩
  |false=>
   obtain⟨f,G,u,I,y,m,E,J⟩:=qvr O h;have e:D.off=false:=by unfold DM.stop at h;cases e:D.off with|true=>rw[e] at h;simp at h|false=>rfl
   have R:D.fused=true->0<D.left:=λF=>by
    unfold DM.stop at h;rw[e,F] at h;simp at h;omega
   have K:D.Qk (a::l)=(D.does a).Qk l:=by show (if D.says a=0 then _ else _)=_;rw[if_pos f]
   have M:D.Zy (a::l)=(D.does a).Zy l:=by show (if D.says a=0 then _ else _)=_;rw[if_pos f]
   have p:D.room (a::l).length=(D.does a).room l.length+1:=by
    unfold DM.room;rw[e,y,m,E]
    cases F:D.fused with
    |true=>have:=R F;simp;omega
    |false=>simp
   obtain⟨T,U,Y,Z,i5,i6,i7⟩:=ih (D.does a) (λb Q=>by rw[u];exact d b (List.mem_cons_of_mem _ Q));rw[K,M,p];refine⟨by rw[T,G];rfl,U.trans u,Y.trans I,Z.trans m,by rw[i5,J];omega,?_,?_⟩
   ·rw[i6,m,E]
    cases F:D.fused with
    |true=>simp;omega
    |false=>simp
   ·rw[e];rcases i7 with⟨j1,j2,j3⟩|⟨j1,j2,j3⟩
    ·exact .inl ⟨by simp[j1],j2,j3.trans y⟩
    ·exact .inr ⟨by simp;exact j1,j2,j3⟩
def Xc (s:Nat):List Stp->List UInt8->List UInt8
 |[],d=>d
 |.w t x::l,d=>Xc s l (if t=s then x else d)
 |.fl::l,d=>Xc s l d
theorem qf6 (M:Mem)(a:Stp)(s:Nat):(M.go a).newest s=(match a with|.w t x=>if t=s then x else M.newest s|.fl=>M.newest s):=by
 cases a with
 |w t x=>
  show (upd M.Zp t (M.Zp t++[x]) s).getLastD (M.Jp s)=if t=s then x else _
  by_cases h:t=s
  ·subst h;rw[Aw,if_pos rfl];simp[List.getLastD_eq_getLast?]
  ·rw[Ar _ _ (λe=>h e.symm),if_neg h];rfl
 |fl=>rfl
theorem q5a (s:Nat):∀(l:List Stp) (M:Mem),(M.Ox l).newest s=Xc s l (M.newest s)
 |[],M=>rfl
 |.w t x::l,M=>by
  show ((M.go (.w t x)).Ox l).newest s=Xc s l (if t=s then x else M.newest s);rw[q5a s l,qf6]
 |.fl::l,M=>by
  show ((M.go .fl).Ox l).newest s=Xc s l (M.newest s);rw[q5a s l,qf6]
theorem Oc (s:Nat):∀(a b:List Stp) (d:List UInt8),Xc s (a++b) d=Xc s b (Xc s a d)
 |[],_,_=>rfl
 |.w _ _::a,b,_=>Oc s a b _
 |.fl::a,b,_=>Oc s a b _
def spares (s:Nat)(l:List Stp):Prop:=∀t x,Stp.w t x∈l->t≠s
theorem q15 {s:Nat}:∀{l:List Stp} (_:spares s l) (d:List UInt8),Xc s l d=d
 |[],_,_=>rfl
 |.w t x::l,h,d=>by
  show Xc s l (if t=s then x else d)=d;rw[if_neg (h t x (List.mem_cons_self ..))];exact q15 (λt x b=>h t x (List.mem_cons_of_mem _ b)) d
 |.fl::l,h,d=>q15 (l:=l) (λt x b=>h t x (List.mem_cons_of_mem _ b)) d
def Mem.may (M:Mem)(s:Nat)(x:List UInt8):Prop:=x=M.Jp s\/x∈M.Zp s
theorem qbs {M:Mem}{s:Nat}(h:M.Zp s=[]):M.newest s=M.Jp s:=by unfold Mem.newest;rw[h];rfl
def Uo (A:List Stp)(slot:Nat)(b:List UInt8):List Stp:=A++.fl::[.w slot b,.fl]
theorem qxb (A:List Stp)(slot:Nat)(b:List UInt8):(Uo A slot b).length=A.length+3:=by unfold Uo;simp
theorem quw (A:List Stp)(slot:Nat)(b:List UInt8)(M:Mem)(s:Nat):(M.Ox (Uo A slot b)).Zp s=[]/\(M.Ox (Uo A slot b)).Jp s=if s=slot then b else Xc s A (M.newest s):=by
 have e:Uo A slot b=(A++[.fl,.w slot b])++[.fl]:=by unfold Uo;simp
 rw[e,q7i];refine⟨rfl,?_⟩;show ((M.Ox (A++[.fl,.w slot b])).newest s)=_;rw[q5a,Oc];show (if slot=s then b else Xc s A (M.newest s))=_;by_cases h:s=slot
 ·rw[if_pos h.symm,if_pos h]
 ·rw[if_neg (λe=>h e.symm),if_neg h]
def Dx (at_:Nat)(l:List (List UInt8)):List Stp:=(List.range l.length).map λi=>.w (at_+i) (l.getD i [])
theorem qdj (at_:Nat)(l:List (List UInt8)):(Dx at_ l).length=l.length:=by unfold Dx;simp
theorem qhj {at_:Nat}{l:List (List UInt8)}{s:Nat}{x:List UInt8}(h:Stp.w s x∈Dx at_ l):∃i,i<l.length/\s=at_+i/\x=l.getD i []:=by
 unfold Dx at h;rw[List.mem_map] at h;obtain⟨i,f,e⟩:=h;injection e with b d;exact⟨i,List.mem_range.1 f,b.symm,d.symm⟩
theorem q7j {at_:Nat}{l:List (List UInt8)}{s:Nat}(h:s<at_\/at_+l.length<=s):spares s (Dx at_ l):=λt x b=>by
 obtain⟨i,d,e,_⟩:=qhj b;omega
theorem qf7 (g:Nat->List UInt8)(at_:Nat):∀(k i:Nat) (d:List UInt8),Xc (at_+i) ((List.range k).map λi=>Stp.w (at_+i) (g i)) d=if i<k then g i else d
 |0,i,d=>rfl
 |k+1,i,d=>by
  rw[List.range_succ,List.map_append,Oc,qf7 g at_ k i d];show (if at_+k=at_+i then g k else _)=_;by_cases h:i=k
  ·subst h;rw[if_pos rfl,if_pos (by omega)]
  ·rw[if_neg (by omega)];by_cases h2:i<k
   ·rw[if_pos h2,if_pos (by omega)]
   ·rw[if_neg h2,if_neg (by omega)]
theorem qf8 (at_:Nat)(l:List (List UInt8))(i:Nat)(d:List UInt8)(h:i<l.length):Xc (at_+i) (Dx at_ l) d=l.getD i []:=by
 unfold Dx;rw[qf7,if_pos h]
theorem qsf (at_:Nat)(b:List (List UInt8)){j:Nat}(d:j<b.length):(Dx at_ b).take (j+1)=(Dx at_ b).take j++[.w (at_+j) (b.getD j [])]:=by
 have e:j<(Dx at_ b).length:=by rw[qdj];exact d
 rw[List.take_add_one,List.getElem?_eq_getElem e];have:(Dx at_ b)[j]=.w (at_+j) (b.getD j []):=by simp[Dx]
 rw[this];rfl
def Io (l:List (Nat × List UInt8)):List Stp:=l.map λb=>.w b.1 b.2
theorem qdc {l:List (Nat × List UInt8)}{s:Nat}(h:∀b∈l,b.1≠s):spares s (Io l):=λt x d=>by
 unfold Io at d;rw[List.mem_map] at d;obtain⟨b,m,e⟩:=d;injection e with f p;exact f▸h b m
theorem qhd (s:Nat)(x:List UInt8):∀(l:List (Nat × List UInt8)) (d:List UInt8),(s,x)∈l->(∀y,(s,y)∈l->y=x)->Xc s (Io l) d=x
 |[],_,h,_=>by cases h
 |b::l,d,h,hu=>by
  show Xc s (Io l) (if b.1=s then b.2 else d)=x;by_cases hm:(s,x)∈l
  ·exact qhd s x l _ hm λy u=>hu y (List.mem_cons_of_mem _ u)
  ·have p:b=(s,x):=by
    rcases List.mem_cons.1 h with e|e
    ·exact e.symm
    ·exact absurd e hm
   have f:spares s (Io l):=qdc λc m e=>by
    obtain⟨c1,c2⟩:=c;dsimp only at e;subst e;have:=hu c2 (List.mem_cons_of_mem _ m);subst this;exact hm m
   rw[q15 f,p,if_pos rfl]
structure Kp (B:Nat)(X:Nat->Prop)(w w':World):Prop where
 os:w'.os=w.os
 tape:w'.tape=w.tape
 output:w'.output=w.output
 size:w.heap.size<=w'.heap.size
 block:∀k,k<w.heap.size->(k<B\/X k)->w'.heap[k]?=w.heap[k]?
section
variable {B:Nat}{X X':Nat->Prop}{w w' w'':World}
theorem Kp.trans (h:Kp B X w w')(k:Kp B X w' w''):Kp B X w w'':=
 ⟨k.os.trans h.os,k.tape.trans h.tape,k.output.trans h.output,Nat.le_trans h.size k.size,λi b d=>(k.block i (Nat.lt_of_lt_of_le b h.size) d).trans (h.block i b d)⟩
theorem Kp.mono (h:Kp B X w w')(hs:∀x,x<w.1.size->X' x->X x):Kp B X' w w':=⟨h.os,h.tape,h.output,h.size,λk b d=>h.block k b (d.imp id (hs k b))⟩
theorem Kp.sl {A:Option Addr}{n c:Nat}{l:List UInt8}(h:Kp B X w w')(s:Sl w A n c l)(ha:∀b,A=some b->b.block<B\/X b.block):Sl w' A n c l:=
 ⟨s.1,s.2.1,s.2.2.1,λj u m=>by
  obtain⟨b,e,d,f⟩:=s.2.2.2 j u m;refine⟨b,e,by have:=h.size;omega,?_⟩;exact (World.cell?_of_block (w:=w) (w':=w') (a:=b.add j) (by rw[q0n];exact h.block _ d (ha b e))).trans f⟩
theorem Kp.cell {p:Addr}(h:Kp B X w w')(hp:p.block<w.1.size)(hx:p.block<B\/X p.block):w'.cell? p=w.cell? p:=World.cell?_of_block (w:=w) (h.block p.block hp hx)
end
section
variable {B:Nat}{X X':Nat->Prop}{w w':World}{A:Option Addr}{n:Nat}{l:List UInt8}
end
section
variable {B:Nat}{X:Nat->Prop}{w w':World}{bp:Nat}{D D':DM}
theorem Y9.keep {S:Nat->Prop}(h:Y9 w bp S D)(hk:∀k,k<w.1.size->S k->w'.1[k]?=w.1[k]?):Y9 w' bp S D:=by
 obtain⟨b,d,l,c,v,L⟩:=h;exact⟨b,d,l,c,v,L.keep hk⟩
theorem Y9.mono {S S':Nat->Prop}(h:Y9 w bp S D)(hk:∀k,k<w.1.size->S k->S' k):Y9 w bp S' D:=by
 obtain⟨b,d,l,c,v,L⟩:=h;exact⟨b,d,l,c,v,L.mono hk⟩
def DM.ok (D:DM)(m:Nat):Prop:=D.steps<=m/\∀k,(D.Zp k).length<=m
theorem DM.ok.mono {D:DM}{m m':Nat}(h:D.ok m)(hm:m<=m'):D.ok m':=⟨by have:=h.1;omega,λk=>by have:=h.2 k;omega⟩
end
section
open Go.ChangeShapes Go.WideShapes Go.ChangeAt
def i64 (z:Int):Prop:=-9223372036854775808<=z/\z<=9223372036854775807
section
variable {H:Type}{enc:TypeId × Value->H}{P:Program}{W:World}
end
section
variable {w w':World}{A:Option Addr}{n c:Nat}{ps:List (Int × Int)}
end
end
