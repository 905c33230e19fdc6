/- Crash: each sector with cached writes is settled as what is kept tells, from the first on -/
import Derived.Test.YtloolbmdiimanaaGreatDoorGv13
import Derived.BigQuiet
import Derived.Deep.QuietTactic
namespace Go.Proofs.YtloolbmdiimanaaGreatDoor
open Go Go.RowKit Go.Proofs Tryz
set_option maxHeartbeats 2000000
set_option maxRecDepth 100000
section
open Go.ChangeMaps (setBlock)
def Ints (w:WD)(A:OA)(n c:Nat)(zs:LI):Prop:=Holds w w.1.size A n c (zs.map (Value.int .i64))/\∀z∈zs,-9223372036854775808<=z/\z<=9223372036854775807
section
variable {w w':WD}{A:OA}{n c:Nat}{zs:LI}{S:NP}
theorem Ints.len (h:Ints w A n c zs):zs.length=n:=by simpa using h.1.1
end
end
section
open Go.ChangeMaps (setBlock)
def DM.flush (D:DM):DM:={ D with Xl:=D.newest,Zp:=λ_=>[] }
def DM.Wh (D:DM):DM:=if D.stop then D.stepD else D.stepD.flush
structure Fl (D D':DM):Prop where
 n:D'.n=D.n
 off:D'.off=D.off
 fused:D'.fused=D.fused
 left:D'.left=D.left
 steps:D'.steps=D.steps
 cap:D'.cap=D.cap
 at_:∀s,(D'.Zp s=D.Zp s/\D'.Xl s=D.Xl s)\/(D'.Zp s=[]/\D'.Xl s=D.newest s)
theorem Fl.refl (D:DM):Fl D D:=⟨rfl,rfl,rfl,rfl,rfl,rfl,λ_=>.inl ⟨rfl,rfl⟩⟩
theorem qol {α:Type}(l:List α)(a d:α)(h:l≠[]):l.getD (l.length-1) d=l.getLastD a:=by
 have h0:0<l.length:=List.length_pos_iff.2 h;rw[AG,AC (by omega),List.getLastD_eq_getLast?,List.getLast?_eq_some_getLast h,List.getLast_eq_getElem];rfl
theorem Fl.settle {D D':DM}(h:Fl D D')(s:Nat)(hs:D'.Zp s≠[]):Fl D (D'.settle s (D'.Zp s).length):=by
 have h0:(D'.Zp s).length≠0:=λe=>hs (BF e)
 refine⟨h.n,h.off,h.fused,h.left,h.steps,h.cap,λz=>?_⟩;have hd:(D'.settle s (D'.Zp s).length).Xl=upd D'.Xl s ((D'.Zp s).getD ((D'.Zp s).length-1) []):=by unfold DM.settle;rw[AB h0]
 by_cases d:z=s
 ·right
  subst d;refine⟨Aj _ _ _,?_⟩;rw[hd,Aj];rcases h.at_ z with⟨h1,h2⟩|⟨h1,_⟩
  ·rw[qol _ (D'.Xl z) _ hs,h1,h2];rfl
  ·exact absurd h1 hs
 ·rw[hd];show (upd D'.Zp s [] z=D.Zp z/\upd D'.Xl s _ z=D.Xl z)\/(upd D'.Zp s [] z=[]/\upd D'.Xl s _ z=D.newest z);rw[Af _ _ d,Af _ _ d];exact h.at_ z
theorem Fl.done {D D':DM}(h:Fl D D')(hc:∀s,D'.Zp s=[]):D'=D.flush:=by
 obtain⟨n,Xl,Zp,off,fused,left,steps,cap⟩:=D';obtain⟨h1,h2,f,g,m,u,p⟩:=h;simp only at h1 h2 f g m p u hc;subst h1 h2 f g m u;have d:Zp=λ_=>[]:=funext hc
 have e:Xl=D.newest:=funext λs=>by
  rcases p s with⟨a,b⟩|⟨_,b⟩
  ·rw[b];unfold DM.newest;rw[<-a,hc s];rfl
  ·exact b
 subst d e;rfl
theorem Lay.tight {w:WD}{bp bd bm clock:Nat}{l:List MapEntry}{v:Nat->Value}{S:NP}{D:DM}(L:Lay w bp bd bm l clock v S D):Lay w bp bd bm l clock v (λk=>S k/\k<w.1.size) D:=L.mono λ_ h1 h2=>⟨h2,h1⟩
def qa9 (w:WD)(b:Nat):Nat:=match w.1[b]? with|some (.map es _)=>es.size|_=>0
theorem qca {w:WD}{b clock:Nat}{l:List MapEntry}(h:w.1[b]?=some (.map l.toArray clock)):qa9 w b=l.length:=by unfold qa9;rw[h];simp
theorem qom {w:WD}{bp:Nat}{S:NP}{D:DM}(L0:Vp w bp S D)(b0:D.steps<=1000000000)(_:∀k,(D.Zp k).length<=1000000) :
  Calls prog 34 #[.pointer (some ⟨bp,0,none⟩)] w λe w'=>e=.returned (.int .i64 D.err)/\Vp w' bp S D.Wh/\Turn S w w':=by
 obtain⟨bd,g,l,clock,v,L⟩:=L0;have Q:=qki L b0;have a6:∀k,k=bp->S k:=λk e=>e▸L.Ym.1
 unfold DM.Wh;unfold DM.err at Q ⊢
 cases y:D.stop with
 |true=>
  rw[y] at Q;go_enter func34,ntmps34
  go_wp2_with fail
  refine Q.mono ?_;rintro e f ⟨rfl,R,T1⟩;go_wp2_with fail
  go_ret;exact⟨rfl,⟨_,_,_,_,_,R⟩,T1.mono a6⟩
 |false=>
  rw[y] at Q;go_enter func34,ntmps34
  go_wp2_with fail
  refine Q.mono ?_;rintro e f ⟨rfl,R,T1⟩;have c1:=R.c1;have a9:=run_range_map (P:=prog) f 68 _ _ g l.toArray clock underlying68 R.map;go_wp2_with fail
  have a5:∀k,(S k/\k<f.1.size)->k≠f.1.size:=λk h=>by omega
  have Y:Turn (λk=>S k/\k<f.1.size) f (f.alloc (Obj.mapIter (some g) clock #[] clock)):=qmp _ _ _;go_loopw [4] (λ_ wr=>∃(l:List MapEntry) (v:Nat->Value) (D':DM) (d:Array Nat),Lay wr bp bd g l clock v (λk=>S k/\k<f.1.size) D'/\Fl D.stepD D'/\wr.1[f.1.size]?=some (.mapIter (some g) clock d clock)/\(∀e∈l,d.contains e.born=false)/\
   Turn (λk=>S k/\k<f.1.size) f wr) (λ_ wr=>qa9 wr g)
  case atStart=>exact⟨l,v,D.stepD,#[],R.tight.keep λk hk _=>heap_alloc_old f _ hk,Fl.refl _,BE f _,λ_ _=>by simp,Y⟩
  case round=>
   clear c1 a9 Y;obtain⟨l,v,D',d,L,F,a1,u,T⟩:=hrel;have hE:leftOf l.toArray d=l.toArray:=by
    unfold leftOf;rw[Array.filter_eq_self];intro e m;rw[u e (by simpa using m)];rfl
   rcases run_next_at (P:=prog) wr 0 f.1.size g clock clock d l.toArray clock a1 L.map (λx J=>L.ents.clock x (by simpa using J)) (AE _) with⟨h0,I⟩|⟨e,m,O,Z,I⟩
   ·rw[hE] at h0;obtain rfl:l=[]:=BF (by simpa using h0);have M:D'=D.stepD.flush:=F.done λs=>by
     have:=L.look s;unfold Zf at this;by_cases h:D'.Zp s=[]
     ·exact h
     ·rw[AB h] at this;cases this
    subst M;go_wp2_with fail
    go_ret;exact⟨rfl,⟨_,_,_,_,_,L.mono λ_ _ h=>h.1⟩,(T1.mono a6).then (T.mono λ_ h=>h.1)⟩
   ·rw[hE] at m;have m:e∈l:=by simpa using m
    obtain⟨s,hs,E⟩:=L.keys e m;have K:D'.Zp s≠[]:=λh=>by
     have h1:=L.look s;rw[AA h,<-E,q62 L.ents.one m] at h1;cases h1
    have a7:e.val=v s:=by
     have h1:=L.look s;rw[AB K,<-E,q62 L.ents.one m] at h1;exact OI h1
    have a3:e.key=.int .i64 (s:Int):=by rw[L.ents.key e m,E]
    obtain⟨A0,c0,b1,_⟩:=qu2 (L.row s);have b4:f.1.size<wr.1.size:=Kw a1;have b5:O.1.size=wr.1.size:=by rcases Z with rfl|rfl<;>rfl
    have T2:Turn (λk=>k=f.1.size) wr O:=by
     rcases Z with rfl|rfl
     ·exact Turn.refl _ _
     ·exact (Turn.refl _ _).drew
    have T3:=T2.then (q0q (w:=O) (.mapIter (some g) clock (d.push e.born) clock) (b:=f.1.size) (S:=λk=>k=f.1.size) rfl);have L3:=L.keep (w':=setBlock O f.1.size (.mapIter (some g) clock (d.push e.born) clock)) λk hk h=>T3.block k hk (a5 k h)
    have p:(setBlock O f.1.size (.mapIter (some g) clock (d.push e.born) clock)).1[f.1.size]?=some (.mapIter (some g) clock (d.push e.born) clock):=q2u (by omega);have a0:=run_entry_at (P:=prog) _ f.1.size g clock d l.toArray clock e p L3.map (by simpa using m) (by simpa using L.ents.born);rw[a3,a7,b1] at I a0;have H3:=qlv L3 s hs (D'.Zp s).length (AE _);have a8:qa9 wr g=l.length:=qca L.map;go_wp2_with fail
    refine H3.mono ?_;rintro e5 w5 ⟨rfl,L5,T5⟩;have U:Turn (λk=>S k/\k<f.1.size) (setBlock O f.1.size (.mapIter (some g) clock (d.push e.born) clock)) w5:=T5.mono λx J=>by rcases J with h|h;exact h▸L.Ym.2.1;exact h▸L.Ym.2.2.1
    have a2:w5.1[f.1.size]?=some (.mapIter (some g) clock (d.push e.born) clock):=(U.block _ (Kw p) (λh=>a5 _ h rfl)).trans p;have G:∀x∈Xt (s:Int) l,(d.push e.born).contains x.born=false:=λx J=>by
     rw[contains_push,u x (q63 J),Bool.false_or,beq_eq_false_iff_ne];intro hb;have b2:=born_inj L.ents.born (q63 J) m hb;subst b2;have h1:=q62 (L.ents.del (s:Int)).one J;rw[q91 _ L.ents.one,E,AA rfl] at h1
     cases h1
    have a4:qa9 w5 g=l.length-1:=by
     rw[qca L5.map,qc0,AB (by rw[L.look s,AB K];simp)]
    have b3:0<l.length:=List.length_pos_iff.2 λh=>by rw[h] at m;cases m
    go_wp2_with fail
    have T6:Turn (λk=>S k/\k<f.1.size) f w5:=(T.trans T3 (λx J=>.inr (by omega))).then U;exact⟨⟨_,_,_,_,L5,F.settle s K,a2,G,T6⟩,by rw[a4,a8];omega⟩
end
inductive Stp where
 |w (s:Nat) (x:LU)
 |fl
def Stp.ok (n:Nat):Stp->Prop
 |.w s x=>s<n/\x.length=256
 |.fl=>True
def DM.does (D:DM):Stp->DM
 |.w s x=>D.Yr s x
 |.fl=>D.Wh
def DM.says (D:DM):Stp->Int
 |.w s x=>D.Zh s x
 |.fl=>D.err
def DM.Jk (D:DM):List Stp->Int
 |[]=>0
 |a::l=>if D.says a=0 then (D.does a).Jk l else D.says a
def DM.Qy (D:DM):List Stp->DM
 |[]=>D
 |a::l=>if D.says a=0 then (D.does a).Qy l else D.does a
theorem q3y (a b:List Stp):∀D:DM,D.Jk (a++b)=if D.Jk a=0 then (D.Qy a).Jk b else D.Jk a:=by
 induction a with
 |nil=>intro D;simp[DM.Jk,DM.Qy]
 |cons x a ih=>
  intro D;show (if D.says x=0 then (D.does x).Jk (a++b) else D.says x)=_;by_cases h:D.says x=0
  ·rw[AA h,ih];simp only[DM.Jk,DM.Qy,AA h]
  ·simp only[DM.Jk,AB h]
theorem q3z (a b:List Stp):∀D:DM,D.Qy (a++b)=if D.Jk a=0 then (D.Qy a).Qy b else D.Qy a:=by
 induction a with
 |nil=>intro D;simp[DM.Jk,DM.Qy]
 |cons x a ih=>
  intro D;show (if D.says x=0 then (D.does x).Qy (a++b) else D.does x)=_;by_cases h:D.says x=0
  ·rw[AA h,ih];simp only[DM.Jk,DM.Qy,AA h]
  ·simp only[DM.Jk,DM.Qy,AB h]
structure Mem where
 Xl:Nat->LU
 Zp:Nat->List (LU)
def DM.mem (D:DM):Mem:=⟨D.Xl,D.Zp⟩
def Mem.newest (M:Mem)(s:Nat):LU:=(M.Zp s).getLastD (M.Xl s)
def Mem.go (M:Mem):Stp->Mem
 |.w s x=>⟨M.Xl,upd M.Zp s (M.Zp s++[x])⟩
 |.fl=>⟨M.newest,λ_=>[]⟩
def Mem.gos (M:Mem):List Stp->Mem
 |[]=>M
 |a::l=>(M.go a).gos l
theorem qcb (a b:List Stp):∀M:Mem,M.gos (a++b)=(M.gos a).gos b:=by
 induction a with
 |nil=>intro M;rfl
 |cons x a ih=>intro M;exact ih _
theorem qwl {D:DM}{a:Stp}(e:a.ok D.n)(h:D.stop=false):D.says a=0/\(D.does a).mem=D.mem.go a/\(D.does a).n=D.n/\(D.does a).cap=D.cap/\(D.does a).off=false/\(D.does a).fused=D.fused/\(D.does a).left=(if D.fused then D.left-1 else D.left)/\(D.does a).steps=D.steps+1:=by
 have d:D.stepD={ D with off:=false,left:=if D.fused then D.left-1 else D.left,steps:=D.steps+1 }:=by unfold DM.stepD;rw[h];rfl
 cases a with
 |w s x=>
  have f:D.bad s x=false:=by unfold DM.bad;exact AH (by rintro (h1|h1);exact h1 ⟨by omega,by have:=e.1;omega⟩;exact h1 e.2)
  refine⟨by show D.Zh s x=0;unfold DM.Zh DM.err;rw[f,h];rfl,?_⟩;have:D.does (.w s x)={ D.stepD with Zp:=upd D.Zp s (D.Zp s++[x]) }:=by
   show D.Yr s x=_;unfold DM.Yr;rw[f,h];rfl
  rw[this,d];exact⟨rfl,rfl,rfl,rfl,rfl,rfl,rfl⟩
 |fl=>
  refine⟨by show D.err=0;unfold DM.err;rw[h];rfl,?_⟩;have:D.does .fl=D.stepD.flush:=by
   show D.Wh=_;unfold DM.Wh;rw[h];rfl
  rw[this,d];exact⟨rfl,rfl,rfl,rfl,rfl,rfl,rfl⟩
theorem qon {D:DM}{a:Stp}(e:a.ok D.n)(h:D.stop=true):D.says a=4/\(D.does a).mem=D.mem/\(D.does a).n=D.n/\(D.does a).cap=D.cap/\(D.does a).off=true/\(D.does a).fused=D.fused/\(D.does a).left=D.left/\(D.does a).steps=D.steps:=by
 have d:D.stepD={ D with off:=true,left:=D.left,steps:=D.steps }:=by unfold DM.stepD;rw[h];rfl
 cases a with
 |w s x=>
  have f:D.bad s x=false:=by unfold DM.bad;exact AH (by rintro (h1|h1);exact h1 ⟨by omega,by have:=e.1;omega⟩;exact h1 e.2)
  refine⟨by show D.Zh s x=4;unfold DM.Zh DM.err;rw[f,h];rfl,?_⟩;have:D.does (.w s x)=D.stepD:=by
   show D.Yr s x=_;unfold DM.Yr;rw[f,h];rfl
  rw[this,d];exact⟨rfl,rfl,rfl,rfl,rfl,rfl,rfl⟩
 |fl=>
  refine⟨by show D.err=4;unfold DM.err;rw[h];rfl,?_⟩;have:D.does .fl=D.stepD:=by
   show D.Wh=_;unfold DM.Wh;rw[h];rfl
  rw[this,d];exact⟨rfl,rfl,rfl,rfl,rfl,rfl,rfl⟩
def DM.room (D:DM)(m:Nat):Nat:=if D.off then 0 else if D.fused then min D.left m else m
theorem qwm (D:DM)(m:Nat):D.room m<=m:=by unfold DM.room;split;omega;split<;>omega
theorem qt7 (l:List Stp):∀D:DM,(∀a∈l,a.ok D.n)->
  (D.Qy l).mem=D.mem.gos (l.take (D.room l.length))/\(D.Qy l).n=D.n/\(D.Qy l).cap=D.cap/\(D.Qy l).fused=D.fused/\(D.Qy l).steps=D.steps+D.room l.length/\(D.Qy l).left=(if D.fused then D.left-D.room l.length else D.left)/\
   ((D.room l.length=l.length/\D.Jk l=0/\(D.Qy l).off=D.off)\/(D.room l.length<l.length/\D.Jk l=4/\(D.Qy l).off=true)):=by
 induction l with
 |nil=>
  intro D _;have m:D.room 0=0:=Nat.le_zero.1 (qwm D 0);show D.mem=D.mem.gos (List.take (D.room 0) [])/\_;rw[show ([]:List Stp).length=0 from rfl,m];exact⟨rfl,rfl,rfl,rfl,rfl,by split<;>rfl,.inl ⟨rfl,rfl,rfl⟩⟩
 |cons a l ih=>
  intro D d;have M:=d a (AP ..)
  cases h:D.stop with
  |true=>
   obtain⟨f,F,p,G,u,g,y,I⟩:=qon M h;have m:D.room (a::l).length=0:=by
    unfold DM.stop at h;unfold DM.room
    cases e:D.off with
    |true=>rfl
    |false=>
     rw[e,Bool.false_or,BN,decide_eq_true_iff] at h;rw[h.1,h.2];simp
   have J:D.Qy (a::l)=D.does a:=by show (if D.says a=0 then _ else _)=_;rw[AB (by rw[f];decide)]
   have K:D.Jk (a::l)=4:=by show (if D.says a=0 then _ else _)=_;rw[AB (by rw[f];decide),f]
   rw[J,K,m];exact⟨F,p,G,g,I,by rw[y];split<;>rfl,.inr ⟨by simp,rfl,u⟩⟩
  |false=>
   obtain⟨f,F,p,G,u,g,y,I⟩:=qwl M h;have e:D.off=false:=by unfold DM.stop at h;cases e:D.off with|true=>rw[e] at h;simp at h|false=>rfl
   have Q:D.fused=true->0<D.left:=λE=>by
    unfold DM.stop at h;rw[e,E] at h;simp at h;omega
   have J:D.Qy (a::l)=(D.does a).Qy l:=by show (if D.says a=0 then _ else _)=_;rw[AA f]
   have K:D.Jk (a::l)=(D.does a).Jk l:=by show (if D.says a=0 then _ else _)=_;rw[AA f]
   have m:D.room (a::l).length=(D.does a).room l.length+1:=by
    unfold DM.room;rw[e,u,g,y]
    cases E:D.fused with
    |true=>have:=Q E;simp;omega
    |false=>simp
   obtain⟨R,T,U,Y,Z,i6,i7⟩:=ih (D.does a) (λb O=>by rw[p];exact d b (AO _ O));rw[J,K,m];refine⟨by rw[R,F];rfl,T.trans p,U.trans G,Y.trans g,by rw[Z,I];omega,?_,?_⟩
   ·rw[i6,g,y]
    cases E:D.fused with
    |true=>simp;omega
    |false=>simp
   ·rw[e];rcases i7 with⟨j1,j2,j3⟩|⟨j1,j2,j3⟩
    ·exact .inl ⟨by simp[j1],j2,j3.trans u⟩
    ·exact .inr ⟨by simp;exact j1,j2,j3⟩
def Y8 (s:Nat):List Stp->LU->LU
 |[],d=>d
 |.w t x::l,d=>Y8 s l (if t=s then x else d)
 |.fl::l,d=>Y8 s l d
theorem qfo (M:Mem)(a:Stp)(s:Nat):(M.go a).newest s=(match a with|.w t x=>if t=s then x else M.newest s|.fl=>M.newest s):=by
 cases a with
 |w t x=>
  show (upd M.Zp t (M.Zp t++[x]) s).getLastD (M.Xl s)=if t=s then x else _
  by_cases h:t=s
  ·subst h;rw[Aj,AA rfl];simp[List.getLastD_eq_getLast?]
  ·rw[Af _ _ (λe=>h e.symm),AB h];rfl
 |fl=>rfl
theorem q7m (s:Nat):∀(l:List Stp) (M:Mem),(M.gos l).newest s=Y8 s l (M.newest s)
 |[],M=>rfl
 |.w t x::l,M=>by
  show ((M.go (.w t x)).gos l).newest s=Y8 s l (if t=s then x else M.newest s);rw[q7m s l,qfo]
 |.fl::l,M=>by
  show ((M.go .fl).gos l).newest s=Y8 s l (M.newest s);rw[q7m s l,qfo]
theorem Tn (s:Nat):∀(a b:List Stp) (d:LU),Y8 s (a++b) d=Y8 s b (Y8 s a d)
 |[],_,_=>rfl
 |.w _ _::a,b,_=>Tn s a b _
 |.fl::a,b,_=>Tn s a b _
def spares (s:Nat)(l:List Stp):Prop:=∀t x,Stp.w t x∈l->t≠s
theorem q32 {s:Nat}:∀{l:List Stp} (_:spares s l) (d:LU),Y8 s l d=d
 |[],_,_=>rfl
 |.w t x::l,h,d=>by
  show Y8 s l (if t=s then x else d)=d;rw[AB (h t x (AP ..))];exact q32 (λt x e=>h t x (AO _ e)) d
 |.fl::l,h,d=>q32 (l:=l) (λt x e=>h t x (AO _ e)) d
def Mem.may (M:Mem)(s:Nat)(x:LU):Prop:=x=M.Xl s\/x∈M.Zp s
def Ls (A:List Stp)(slot:Nat)(d:LU):List Stp:=A++.fl::[.w slot d,.fl]
def Fe (at_:Nat)(l:List (LU)):List Stp:=(List.range l.length).map λi=>.w (at_+i) (l.getD i [])
theorem qi0 (at_:Nat)(l:List (LU)):(Fe at_ l).length=l.length:=by unfold Fe;simp
theorem qoo {at_:Nat}{l:List (LU)}{s:Nat}{x:LU}(h:Stp.w s x∈Fe at_ l):∃i,i<l.length/\s=at_+i/\x=l.getD i []:=by
 unfold Fe at h;rw[List.mem_map] at h;obtain⟨i,hi,e⟩:=h;injection e with d f;exact⟨i,List.mem_range.1 hi,d.symm,f.symm⟩
theorem qm3 {at_:Nat}{l:List (LU)}{s:Nat}(h:s<at_\/at_+l.length<=s):spares s (Fe at_ l):=λt x d=>by
 obtain⟨i,hi,e,_⟩:=qoo d;omega
theorem qfp (g:Nat->LU)(at_:Nat):∀(k i:Nat) (d:LU),Y8 (at_+i) ((List.range k).map λi=>Stp.w (at_+i) (g i)) d=if i<k then g i else d
 |0,i,d=>rfl
 |k+1,i,d=>by
  rw[List.range_succ,List.map_append,Tn,qfp g at_ k i d];show (if at_+k=at_+i then g k else _)=_;by_cases h:i=k
  ·subst h;rw[AA rfl,AA (by omega)]
  ·rw[AB (by omega)];by_cases h2:i<k
   ·rw[AA h2,AA (by omega)]
   ·rw[AB h2,AB (by omega)]
theorem qop (at_:Nat)(l:List (LU))(i:Nat)(d:LU)(h:i<l.length):Y8 (at_+i) (Fe at_ l) d=l.getD i []:=by
 unfold Fe;rw[qfp,AA h]
theorem qt8 (at_:Nat)(d:List (LU)){j:Nat}(e:j<d.length):(Fe at_ d).take (j+1)=(Fe at_ d).take j++[.w (at_+j) (d.getD j [])]:=by
 have f:j<(Fe at_ d).length:=by rw[qi0];exact e
 rw[List.take_add_one,AC f];have:(Fe at_ d)[j]=.w (at_+j) (d.getD j []):=by simp[Fe]
 rw[this];rfl
structure Kp (B:Nat)(X:NP)(w w':WD):Prop where
 os:w'.os=w.os
 tape:w'.tape=w.tape
 output:w'.output=w.output
 size:w.heap.size<=w'.heap.size
 block:∀k,k<w.heap.size->(k<B\/X k)->w'.heap[k]?=w.heap[k]?
section
variable {B:Nat}{X X':NP}{w w' w'':WD}
theorem Kp.trans (h:Kp B X w w')(k:Kp B X w' w''):Kp B X w w'':=
 ⟨k.os.trans h.os,k.tape.trans h.tape,k.output.trans h.output,AZ h.size k.size,λi hi d=>(k.block i (Nat.lt_of_lt_of_le hi h.size) d).trans (h.block i hi d)⟩
theorem Kp.mono (h:Kp B X w w')(hs:∀x,x<w.1.size->X' x->X x):Kp B X' w w':=⟨h.os,h.tape,h.output,h.size,λk d e=>h.block k d (e.imp id (hs k d))⟩
theorem Kp.sl {A:OA}{n c:Nat}{l:LU}(h:Kp B X w w')(s:Sl w A n c l)(ha:∀d,A=some d->d.block<B\/X d.block):Sl w' A n c l:=
 ⟨s.1,s.2.1,s.2.2.1,λj u m=>by
  obtain⟨d,e,f,g⟩:=s.2.2.2 j u m;refine⟨d,e,by have:=h.size;omega,?_⟩;exact (AY (w:=w) (w':=w') (a:=d.add j) (by rw[Oa];exact h.block _ f (ha d e))).trans g⟩
theorem Kp.cell {p:Addr}(h:Kp B X w w')(hp:p.block<w.1.size)(hx:p.block<B\/X p.block):w'.cell? p=w.cell? p:=AY (w:=w) (h.block p.block hp hx)
end
section
variable {B:Nat}{X X':NP}{w w':WD}{A:OA}{n:Nat}{l:LU}
end
section
variable {B:Nat}{X:NP}{w w':WD}{bp:Nat}{D D':DM}
theorem Vp.keep {S:NP}(h:Vp w bp S D)(hk:∀k,k<w.1.size->S k->w'.1[k]?=w.1[k]?):Vp w' bp S D:=by
 obtain⟨d,e,l,c,v,L⟩:=h;exact⟨d,e,l,c,v,L.keep hk⟩
theorem Vp.mono {S S':NP}(h:Vp w bp S D)(hk:∀k,k<w.1.size->S k->S' k):Vp w bp S' D:=by
 obtain⟨d,e,l,c,v,L⟩:=h;exact⟨d,e,l,c,v,L.mono hk⟩
def DM.ok (D:DM)(m:Nat):Prop:=D.steps<=m/\∀k,(D.Zp k).length<=m
theorem DM.ok.mono {D:DM}{m m':Nat}(h:D.ok m)(hm:m<=m'):D.ok m':=⟨by have:=h.1;omega,λk=>by have:=h.2 k;omega⟩
end
theorem qwn {w:WD}{A:OA}{n c:Nat}{l:LU}(h:Sl w A n c l):(convert 22 9 (.slice A n c)).run prog w=.ok (.string ⟨l.toArray⟩) w:=
 q61 22 9 5 Cb underlying5 underlying9 h
section
open Go.ChangeShapes Go.WideShapes Go.ChangeAt
def i64 (z:Int):Prop:=-9223372036854775808<=z/\z<=9223372036854775807
section
variable {H:Type}{enc:TypeId × Value->H}{P:Program}{W:WD}
end
section
variable {w w':WD}{A:OA}{n c:Nat}{ps:List (Int × Int)}
end
end
