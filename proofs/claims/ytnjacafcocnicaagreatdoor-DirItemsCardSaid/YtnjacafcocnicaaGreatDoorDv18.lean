/- Crash: each sector with cached writes is settled as what is kept tells, from the first on -/
import Derived.Test.YtnjacafcocnicaaGreatDoorDv6
import Derived.Test.YtnjacafcocnicaaGreatDoorDv14
namespace Go.Proofs.YtnjacafcocnicaaGreatDoor
open Go Go.RowKit Go.Proofs Tryz
set_option maxHeartbeats 2000000
set_option maxRecDepth 100000
section
open Go.ChangeMaps (setBlock)
def Ints (w:WD)(A:OA)(n c:Nat)(zs:LI):Prop:=Holds w w.1.size A n c (zs.map (Value.int .i64))/\∀z∈zs,-9223372036854775808<=z/\z<=9223372036854775807
section
variable {w w':WD}{A:OA}{n c:Nat}{zs:LI}{S:NP}
theorem Ints.len (h:Ints w A n c zs):zs.length=n:=by simpa using h.1.1
theorem Ints.cap (h:Ints w A n c zs):n<=c:=h.1.2.1
theorem Ints.range (h:Ints w A n c zs):-9223372036854775808<=zs.headD 0/\zs.headD 0<=9223372036854775807:=by
 rcases zs with _|⟨z,r⟩
 ·simp
 ·exact h.2 z (by simp)
end
end
section
open Go.ChangeMaps (setBlock)
def DM.flush (D:DM):DM:={ D with Jq:=D.newest,Zq:=λ_=>[] }
def DM.Wx (D:DM):DM:=if D.stop then D.stepD else D.stepD.flush
structure Fl (D D':DM):Prop where
 n:D'.n=D.n
 off:D'.off=D.off
 fused:D'.fused=D.fused
 left:D'.left=D.left
 steps:D'.steps=D.steps
 cap:D'.cap=D.cap
 at_:∀s,(D'.Zq s=D.Zq s/\D'.Jq s=D.Jq s)\/(D'.Zq s=[]/\D'.Jq s=D.newest s)
theorem Fl.refl (D:DM):Fl D D:=⟨rfl,rfl,rfl,rfl,rfl,rfl,λ_=>.inl ⟨rfl,rfl⟩⟩
theorem qqf {α:Type}(l:List α)(a d:α)(h:l≠[]):l.getD (l.length-1) d=l.getLastD a:=by
 have h0:0<l.length:=List.length_pos_iff.2 h;rw[AG,AC (by omega),List.getLastD_eq_getLast?,List.getLast?_eq_some_getLast h,List.getLast_eq_getElem];rfl
theorem Fl.settle {D D':DM}(h:Fl D D')(s:Nat)(hs:D'.Zq s≠[]):Fl D (D'.settle s (D'.Zq s).length):=by
 have h0:(D'.Zq s).length≠0:=λe=>hs (BF e)
 refine⟨h.n,h.off,h.fused,h.left,h.steps,h.cap,λz=>?_⟩;have hd:(D'.settle s (D'.Zq s).length).Jq=upd D'.Jq s ((D'.Zq s).getD ((D'.Zq s).length-1) []):=by unfold DM.settle;rw[AB h0]
 by_cases f:z=s
 ·right
  subst f;refine⟨Ci _ _ _,?_⟩;rw[hd,Ci];rcases h.at_ z with⟨h1,h2⟩|⟨h1,_⟩
  ·rw[qqf _ (D'.Jq z) _ hs,h1,h2];rfl
  ·exact absurd h1 hs
 ·rw[hd];show (upd D'.Zq s [] z=D.Zq z/\upd D'.Jq s _ z=D.Jq z)\/(upd D'.Zq s [] z=[]/\upd D'.Jq s _ z=D.newest z);rw[Bv _ _ f,Bv _ _ f];exact h.at_ z
theorem Fl.done {D D':DM}(h:Fl D D')(hc:∀s,D'.Zq s=[]):D'=D.flush:=by
 obtain⟨n,Jq,Zq,off,fused,left,steps,cap⟩:=D';obtain⟨h1,h2,m,p,q,y,u⟩:=h;simp only at h1 h2 m p q u y hc;subst h1 h2 m p q y;have e:Zq=λ_=>[]:=funext hc
 have f:Jq=D.newest:=funext λs=>by
  rcases u s with⟨a,b⟩|⟨_,b⟩
  ·rw[b];unfold DM.newest;rw[<-a,hc s];rfl
  ·exact b
 subst e f;rfl
theorem Lay.tight {w:WD}{bp bd bm clock:Nat}{l:List MapEntry}{v:Nat->Value}{S:NP}{D:DM}(L:Lay w bp bd bm l clock v S D):Lay w bp bd bm l clock v (λk=>S k/\k<w.1.size) D:=L.mono λ_ h1 h2=>⟨h2,h1⟩
def qan (w:WD)(b:Nat):Nat:=match w.1[b]? with|some (.map es _)=>es.size|_=>0
theorem qcx {w:WD}{b clock:Nat}{l:List MapEntry}(h:w.1[b]?=some (.map l.toArray clock)):qan w b=l.length:=by unfold qan;rw[h];simp
theorem qqg {w:WD}{bp:Nat}{S:NP}{D:DM}(L0:Vk w bp S D)(b5:D.steps<=1000000000)(_:∀k,(D.Zq k).length<=1000000) :
  Calls prog 74 #[.pointer (some ⟨bp,0,none⟩)] w λe w'=>e=.returned (.int .i64 D.err)/\Vk w' bp S D.Wx/\Turn S w w':=by
 obtain⟨bd,p,l,clock,v,L⟩:=L0;have R:=qn7 L b5;have b1:∀k,k=bp->S k:=λk e=>e▸L.Yl.1
 unfold DM.Wx;unfold DM.err at R ⊢
 cases E:D.stop with
 |true=>
  rw[E] at R;go_enter func74,ntmps74
  go_wp2_with fail
  refine R.mono ?_;rintro e m ⟨rfl,U,T1⟩;go_wp2_with fail
  go_ret;exact⟨rfl,⟨_,_,_,_,_,U⟩,T1.mono b1⟩
 |false=>
  rw[E] at R;go_enter func74,ntmps74
  go_wp2_with fail
  refine R.mono ?_;rintro e m ⟨rfl,U,T1⟩;have c1:=U.c1;have b4:=run_range_map (P:=prog) m 90 _ _ p l.toArray clock underlying90 U.map;go_wp2_with fail
  have b0:∀k,(S k/\k<m.1.size)->k≠m.1.size:=λk h=>by omega
  have Y:Turn (λk=>S k/\k<m.1.size) m (m.alloc (Obj.mapIter (some p) clock #[] clock)):=qpe _ _ _;go_loopw [4] (λ_ wr=>∃(l:List MapEntry) (v:Nat->Value) (D':DM) (f:Array Nat),Lay wr bp bd p l clock v (λk=>S k/\k<m.1.size) D'/\Fl D.stepD D'/\wr.1[m.1.size]?=some (.mapIter (some p) clock f clock)/\(∀e∈l,f.contains e.born=false)/\
   Turn (λk=>S k/\k<m.1.size) m wr) (λ_ wr=>qan wr p)
  case atStart=>exact⟨l,v,D.stepD,#[],U.tight.keep λk hk _=>heap_alloc_old m _ hk,Fl.refl _,BE m _,λ_ _=>by simp,Y⟩
  case round=>
   clear c1 b4 Y;obtain⟨l,v,D',f,L,F,a2,y,T⟩:=hrel;have hE:leftOf l.toArray f=l.toArray:=by
    unfold leftOf;rw[Array.filter_eq_self];intro e q;rw[y e (by simpa using q)];rfl
   rcases run_next_at (P:=prog) wr 0 m.1.size p clock clock f l.toArray clock a2 L.map (λx K=>L.ents.clock x (by simpa using K)) (AE _) with⟨h0,J⟩|⟨e,q,Q,Z,J⟩
   ·rw[hE] at h0;obtain rfl:l=[]:=BF (by simpa using h0);have O:D'=D.stepD.flush:=F.done λs=>by
     have:=L.look s;unfold Zf at this;by_cases h:D'.Zq s=[]
     ·exact h
     ·rw[AB h] at this;cases this
    subst O;go_wp2_with fail
    go_ret;exact⟨rfl,⟨_,_,_,_,_,L.mono λ_ _ h=>h.1⟩,(T1.mono b1).then (T.mono λ_ h=>h.1)⟩
   ·rw[hE] at q;have q:e∈l:=by simpa using q
    obtain⟨s,hs,G⟩:=L.keys e q;have M:D'.Zq s≠[]:=λh=>by
     have h1:=L.look s;rw[AA h,<-G,q43 L.ents.one q] at h1;cases h1
    have b2:e.val=v s:=by
     have h1:=L.look s;rw[AB M,<-G,q43 L.ents.one q] at h1;exact OI h1
    have a7:e.key=.int .i64 (s:Int):=by rw[L.ents.key e q,G]
    obtain⟨A0,c0,b6,_⟩:=qn3 (L.row s);have b9:m.1.size<wr.1.size:=Ky a2;have c6:Q.1.size=wr.1.size:=by rcases Z with rfl|rfl<;>rfl
    have T2:Turn (λk=>k=m.1.size) wr Q:=by
     rcases Z with rfl|rfl
     ·exact Turn.refl _ _
     ·exact (Turn.refl _ _).drew
    have T3:=T2.then (q0t (w:=Q) (.mapIter (some p) clock (f.push e.born) clock) (b:=m.1.size) (S:=λk=>k=m.1.size) rfl);have L3:=L.keep (w':=setBlock Q m.1.size (.mapIter (some p) clock (f.push e.born) clock)) λk hk h=>T3.block k hk (b0 k h)
    have u:(setBlock Q m.1.size (.mapIter (some p) clock (f.push e.born) clock)).1[m.1.size]?=some (.mapIter (some p) clock (f.push e.born) clock):=q2a (by omega);have a1:=run_entry_at (P:=prog) _ m.1.size p clock f l.toArray clock e u L3.map (by simpa using q) (by simpa using L.ents.born);rw[a7,b2,b6] at J a1;have H3:=qns L3 s hs (D'.Zq s).length (AE _);have b3:qan wr p=l.length:=qcx L.map;go_wp2_with fail
    refine H3.mono ?_;rintro e5 w5 ⟨rfl,L5,T5⟩;have V:Turn (λk=>S k/\k<m.1.size) (setBlock Q m.1.size (.mapIter (some p) clock (f.push e.born) clock)) w5:=T5.mono λx K=>by rcases K with h|h;exact h▸L.Yl.2.1;exact h▸L.Yl.2.2.1
    have a6:w5.1[m.1.size]?=some (.mapIter (some p) clock (f.push e.born) clock):=(V.block _ (Ky u) (λh=>b0 _ h rfl)).trans u;have I:∀x∈Ye (s:Int) l,(f.push e.born).contains x.born=false:=λx K=>by
     rw[contains_push,y x (q69 K),Bool.false_or,beq_eq_false_iff_ne];intro hb;have b7:=born_inj L.ents.born (q69 K) q hb;subst b7;have h1:=q43 (L.ents.del (s:Int)).one K;rw[q9p _ L.ents.one,G,AA rfl] at h1
     cases h1
    have a8:qan w5 p=l.length-1:=by
     rw[qcx L5.map,qcn,AB (by rw[L.look s,AB M];simp)]
    have b8:0<l.length:=List.length_pos_iff.2 λh=>by rw[h] at q;cases q
    go_wp2_with fail
    have T6:Turn (λk=>S k/\k<m.1.size) m w5:=(T.trans T3 (λx K=>.inr (by omega))).then V;exact⟨⟨_,_,_,_,L5,F.settle s M,a6,I,T6⟩,by rw[a8,b3];omega⟩
end
inductive Stp where
 |w (s:Nat) (x:LU)
 |fl
def Stp.ok (n:Nat):Stp->Prop
 |.w s x=>s<n/\x.length=256
 |.fl=>True
def DM.does (D:DM):Stp->DM
 |.w s x=>D.Y6 s x
 |.fl=>D.Wx
def DM.says (D:DM):Stp->Int
 |.w s x=>D.Zi s x
 |.fl=>D.err
def DM.Zv (D:DM):List Stp->Int
 |[]=>0
 |a::l=>if D.says a=0 then (D.does a).Zv l else D.says a
def DM.Qj (D:DM):List Stp->DM
 |[]=>D
 |a::l=>if D.says a=0 then (D.does a).Qj l else D.does a
theorem q32 (a b:List Stp):∀D:DM,D.Zv (a++b)=if D.Zv a=0 then (D.Qj a).Zv b else D.Zv a:=by
 induction a with
 |nil=>intro D;simp[DM.Zv,DM.Qj]
 |cons x a ih=>
  intro D;show (if D.says x=0 then (D.does x).Zv (a++b) else D.says x)=_;by_cases h:D.says x=0
  ·rw[AA h,ih];simp only[DM.Zv,DM.Qj,AA h]
  ·simp only[DM.Zv,AB h]
theorem q33 (a b:List Stp):∀D:DM,D.Qj (a++b)=if D.Zv a=0 then (D.Qj a).Qj b else D.Qj a:=by
 induction a with
 |nil=>intro D;simp[DM.Zv,DM.Qj]
 |cons x a ih=>
  intro D;show (if D.says x=0 then (D.does x).Qj (a++b) else D.does x)=_;by_cases h:D.says x=0
  ·rw[AA h,ih];simp only[DM.Zv,DM.Qj,AA h]
  ·simp only[DM.Zv,DM.Qj,AB h]
structure Mem where
 Jq:Nat->LU
 Zq:Nat->List (LU)
def DM.mem (D:DM):Mem:=⟨D.Jq,D.Zq⟩
def Mem.newest (M:Mem)(s:Nat):LU:=(M.Zq s).getLastD (M.Jq s)
def Mem.go (M:Mem):Stp->Mem
 |.w s x=>⟨M.Jq,upd M.Zq s (M.Zq s++[x])⟩
 |.fl=>⟨M.newest,λ_=>[]⟩
def Mem.Si (M:Mem):List Stp->Mem
 |[]=>M
 |a::l=>(M.go a).Si l
theorem q81 (a b:List Stp):∀M:Mem,M.Si (a++b)=(M.Si a).Si b:=by
 induction a with
 |nil=>intro M;rfl
 |cons x a ih=>intro M;exact ih _
theorem qzr {D:DM}{a:Stp}(f:a.ok D.n)(h:D.stop=false):D.says a=0/\(D.does a).mem=D.mem.go a/\(D.does a).n=D.n/\(D.does a).cap=D.cap/\(D.does a).off=false/\(D.does a).fused=D.fused/\(D.does a).left=(if D.fused then D.left-1 else D.left)/\(D.does a).steps=D.steps+1:=by
 have e:D.stepD={ D with off:=false,left:=if D.fused then D.left-1 else D.left,steps:=D.steps+1 }:=by unfold DM.stepD;rw[h];rfl
 cases a with
 |w s x=>
  have m:D.bad s x=false:=by unfold DM.bad;exact AH (by rintro (h1|h1);exact h1 ⟨by omega,by have:=f.1;omega⟩;exact h1 f.2)
  refine⟨by show D.Zi s x=0;unfold DM.Zi DM.err;rw[m,h];rfl,?_⟩;have:D.does (.w s x)={ D.stepD with Zq:=upd D.Zq s (D.Zq s++[x]) }:=by
   show D.Y6 s x=_;unfold DM.Y6;rw[m,h];rfl
  rw[this,e];exact⟨rfl,rfl,rfl,rfl,rfl,rfl,rfl⟩
 |fl=>
  refine⟨by show D.err=0;unfold DM.err;rw[h];rfl,?_⟩;have:D.does .fl=D.stepD.flush:=by
   show D.Wx=_;unfold DM.Wx;rw[h];rfl
  rw[this,e];exact⟨rfl,rfl,rfl,rfl,rfl,rfl,rfl⟩
theorem qqh {D:DM}{a:Stp}(f:a.ok D.n)(h:D.stop=true):D.says a=4/\(D.does a).mem=D.mem/\(D.does a).n=D.n/\(D.does a).cap=D.cap/\(D.does a).off=true/\(D.does a).fused=D.fused/\(D.does a).left=D.left/\(D.does a).steps=D.steps:=by
 have e:D.stepD={ D with off:=true,left:=D.left,steps:=D.steps }:=by unfold DM.stepD;rw[h];rfl
 cases a with
 |w s x=>
  have m:D.bad s x=false:=by unfold DM.bad;exact AH (by rintro (h1|h1);exact h1 ⟨by omega,by have:=f.1;omega⟩;exact h1 f.2)
  refine⟨by show D.Zi s x=4;unfold DM.Zi DM.err;rw[m,h];rfl,?_⟩;have:D.does (.w s x)=D.stepD:=by
   show D.Y6 s x=_;unfold DM.Y6;rw[m,h];rfl
  rw[this,e];exact⟨rfl,rfl,rfl,rfl,rfl,rfl,rfl⟩
 |fl=>
  refine⟨by show D.err=4;unfold DM.err;rw[h];rfl,?_⟩;have:D.does .fl=D.stepD:=by
   show D.Wx=_;unfold DM.Wx;rw[h];rfl
  rw[this,e];exact⟨rfl,rfl,rfl,rfl,rfl,rfl,rfl⟩
def DM.room (D:DM)(m:Nat):Nat:=if D.off then 0 else if D.fused then min D.left m else m
theorem qzs (D:DM)(m:Nat):D.room m<=m:=by unfold DM.room;split;omega;split<;>omega
theorem qvi (l:List Stp):∀D:DM,(∀a∈l,a.ok D.n)->
  (D.Qj l).mem=D.mem.Si (l.take (D.room l.length))/\(D.Qj l).n=D.n/\(D.Qj l).cap=D.cap/\(D.Qj l).fused=D.fused/\(D.Qj l).steps=D.steps+D.room l.length/\(D.Qj l).left=(if D.fused then D.left-D.room l.length else D.left)/\
   ((D.room l.length=l.length/\D.Zv l=0/\(D.Qj l).off=D.off)\/(D.room l.length<l.length/\D.Zv l=4/\(D.Qj l).off=true)):=by
 induction l with
 |nil=>
  intro D _;have q:D.room 0=0:=Nat.le_zero.1 (qzs D 0);show D.mem=D.mem.Si (List.take (D.room 0) [])/\_;rw[show ([]:List Stp).length=0 from rfl,q];exact⟨rfl,rfl,rfl,rfl,rfl,by split<;>rfl,.inl ⟨rfl,rfl,rfl⟩⟩
 |cons a l ih=>
  intro D e;have O:=e a (AP ..)
  cases h:D.stop with
  |true=>
   obtain⟨m,G,u,I,y,p,E,J⟩:=qqh O h;have q:D.room (a::l).length=0:=by
    unfold DM.stop at h;unfold DM.room
    cases f:D.off with
    |true=>rfl
    |false=>
     rw[f,Bool.false_or,BN,decide_eq_true_iff] at h;rw[h.1,h.2];simp
   have K:D.Qj (a::l)=D.does a:=by show (if D.says a=0 then _ else _)=_;rw[AB (by rw[m];decide)]
   have M:D.Zv (a::l)=4:=by show (if D.says a=0 then _ else _)=_;rw[AB (by rw[m];decide),m]
   rw[K,M,q];exact⟨G,u,I,p,J,by rw[E];split<;>rfl,.inr ⟨by simp,rfl,y⟩⟩
  |false=>
   obtain⟨m,G,u,I,y,p,E,J⟩:=qzr O h;have f:D.off=false:=by unfold DM.stop at h;cases f:D.off with|true=>rw[f] at h;simp at h|false=>rfl
   have R:D.fused=true->0<D.left:=λF=>by
    unfold DM.stop at h;rw[f,F] at h;simp at h;omega
   have K:D.Qj (a::l)=(D.does a).Qj l:=by show (if D.says a=0 then _ else _)=_;rw[AA m]
   have M:D.Zv (a::l)=(D.does a).Zv l:=by show (if D.says a=0 then _ else _)=_;rw[AA m]
   have q:D.room (a::l).length=(D.does a).room l.length+1:=by
    unfold DM.room;rw[f,y,p,E]
    cases F:D.fused with
    |true=>have:=R F;simp;omega
    |false=>simp
   obtain⟨T,U,V,Y,Z,i6,i7⟩:=ih (D.does a) (λb Q=>by rw[u];exact e b (AO _ Q));rw[K,M,q];refine⟨by rw[T,G];rfl,U.trans u,V.trans I,Y.trans p,by rw[Z,J];omega,?_,?_⟩
   ·rw[i6,p,E]
    cases F:D.fused with
    |true=>simp;omega
    |false=>simp
   ·rw[f];rcases i7 with⟨j1,j2,j3⟩|⟨j1,j2,j3⟩
    ·exact .inl ⟨by simp[j1],j2,j3.trans y⟩
    ·exact .inr ⟨by simp;exact j1,j2,j3⟩
def Xi (s:Nat):List Stp->LU->LU
 |[],d=>d
 |.w t x::l,d=>Xi s l (if t=s then x else d)
 |.fl::l,d=>Xi s l d
theorem qgi (M:Mem)(a:Stp)(s:Nat):(M.go a).newest s=(match a with|.w t x=>if t=s then x else M.newest s|.fl=>M.newest s):=by
 cases a with
 |w t x=>
  show (upd M.Zq t (M.Zq t++[x]) s).getLastD (M.Jq s)=if t=s then x else _
  by_cases h:t=s
  ·subst h;rw[Ci,AA rfl];simp[List.getLastD_eq_getLast?]
  ·rw[Bv _ _ (λe=>h e.symm),AB h];rfl
 |fl=>rfl
theorem q5d (s:Nat):∀(l:List Stp) (M:Mem),(M.Si l).newest s=Xi s l (M.newest s)
 |[],M=>rfl
 |.w t x::l,M=>by
  show ((M.go (.w t x)).Si l).newest s=Xi s l (if t=s then x else M.newest s);rw[q5d s l,qgi]
 |.fl::l,M=>by
  show ((M.go .fl).Si l).newest s=Xi s l (M.newest s);rw[q5d s l,qgi]
theorem P9 (s:Nat):∀(a b:List Stp) (d:LU),Xi s (a++b) d=Xi s b (Xi s a d)
 |[],_,_=>rfl
 |.w _ _::a,b,_=>P9 s a b _
 |.fl::a,b,_=>P9 s a b _
def spares (s:Nat)(l:List Stp):Prop:=∀t x,Stp.w t x∈l->t≠s
theorem q18 {s:Nat}:∀{l:List Stp} (_:spares s l) (d:LU),Xi s l d=d
 |[],_,_=>rfl
 |.w t x::l,h,d=>by
  show Xi s l (if t=s then x else d)=d;rw[AB (h t x (AP ..))];exact q18 (λt x e=>h t x (AO _ e)) d
 |.fl::l,h,d=>q18 (l:=l) (λt x e=>h t x (AO _ e)) d
theorem qcg {M:Mem}{s:Nat}(h:M.Zq s=[]):M.newest s=M.Jq s:=by unfold Mem.newest;rw[h];rfl
def Gf (A:List Stp)(slot:Nat)(e:LU):List Stp:=A++.fl::[.w slot e,.fl]
theorem qzt (A:List Stp)(slot:Nat)(e:LU):(Gf A slot e).length=A.length+3:=by unfold Gf;simp
theorem qvj (A:List Stp)(slot:Nat)(f:LU)(M:Mem)(s:Nat):(M.Si (Gf A slot f)).Zq s=[]/\(M.Si (Gf A slot f)).Jq s=if s=slot then f else Xi s A (M.newest s):=by
 have e:Gf A slot f=(A++[.fl,.w slot f])++[.fl]:=by unfold Gf;simp
 rw[e,q81];refine⟨rfl,?_⟩;show ((M.Si (A++[.fl,.w slot f])).newest s)=_;rw[q5d,P9];show (if slot=s then f else Xi s A (M.newest s))=_;by_cases h:s=slot
 ·rw[AA h.symm,AA h]
 ·rw[AB (λe=>h e.symm),AB h]
def Ez (at_:Nat)(l:List (LU)):List Stp:=(List.range l.length).map λi=>.w (at_+i) (l.getD i [])
theorem qem (at_:Nat)(l:List (LU)):(Ez at_ l).length=l.length:=by unfold Ez;simp
theorem qjb {at_:Nat}{l:List (LU)}{s:Nat}{x:LU}(h:Stp.w s x∈Ez at_ l):∃i,i<l.length/\s=at_+i/\x=l.getD i []:=by
 unfold Ez at h;rw[List.mem_map] at h;obtain⟨i,hi,e⟩:=h;injection e with f m;exact⟨i,List.mem_range.1 hi,f.symm,m.symm⟩
theorem q82 {at_:Nat}{l:List (LU)}{s:Nat}(h:s<at_\/at_+l.length<=s):spares s (Ez at_ l):=λt x f=>by
 obtain⟨i,hi,e,_⟩:=qjb f;omega
theorem qgj (g:Nat->LU)(at_:Nat):∀(k i:Nat) (d:LU),Xi (at_+i) ((List.range k).map λi=>Stp.w (at_+i) (g i)) d=if i<k then g i else d
 |0,i,d=>rfl
 |k+1,i,d=>by
  rw[List.range_succ,List.map_append,P9,qgj g at_ k i d];show (if at_+k=at_+i then g k else _)=_;by_cases h:i=k
  ·subst h;rw[AA rfl,AA (by omega)]
  ·rw[AB (by omega)];by_cases h2:i<k
   ·rw[AA h2,AA (by omega)]
   ·rw[AB h2,AB (by omega)]
theorem qgk (at_:Nat)(l:List (LU))(i:Nat)(d:LU)(h:i<l.length):Xi (at_+i) (Ez at_ l) d=l.getD i []:=by
 unfold Ez;rw[qgj,AA h]
theorem qvk (at_:Nat)(e:List (LU)){j:Nat}(f:j<e.length):(Ez at_ e).take (j+1)=(Ez at_ e).take j++[.w (at_+j) (e.getD j [])]:=by
 have m:j<(Ez at_ e).length:=by rw[qem];exact f
 rw[List.take_add_one,AC m];have:(Ez at_ e)[j]=.w (at_+j) (e.getD j []):=by simp[Ez]
 rw[this];rfl
def Np (l:List (Nat × LU)):List Stp:=l.map λb=>.w b.1 b.2
theorem qcy {l:List (Nat × LU)}{s:Nat}(h:∀b∈l,b.1≠s):spares s (Np l):=λt x f=>by
 unfold Np at f;rw[List.mem_map] at f;obtain⟨b,p,e⟩:=f;injection e with m q;exact m▸h b p
theorem qgl (s:Nat)(x:LU):∀(l:List (Nat × LU)) (d:LU),(s,x)∈l->(∀y,(s,y)∈l->y=x)->Xi s (Np l) d=x
 |[],_,h,_=>by cases h
 |b::l,d,h,hu=>by
  show Xi s (Np l) (if b.1=s then b.2 else d)=x;by_cases hm:(s,x)∈l
  ·exact qgl s x l _ hm λy q=>hu y (AO _ q)
  ·have p:b=(s,x):=by
    rcases List.mem_cons.1 h with e|e
    ·exact e.symm
    ·exact absurd e hm
   have f:spares s (Np l):=qcy λc m e=>by
    obtain⟨c1,c2⟩:=c;dsimp only at e;subst e;have:=hu c2 (AO _ m);subst this;exact hm m
   rw[q18 f,p,AA rfl]
structure Kp (B:Nat)(X:NP)(w w':WD):Prop where
 os:w'.os=w.os
 tape:w'.tape=w.tape
 output:w'.output=w.output
 size:w.heap.size<=w'.heap.size
 block:∀k,k<w.heap.size->(k<B\/X k)->w'.heap[k]?=w.heap[k]?
section
variable {B:Nat}{X X':NP}{w w' w'':WD}
theorem Kp.trans (h:Kp B X w w')(k:Kp B X w' w''):Kp B X w w'':=
 ⟨k.os.trans h.os,k.tape.trans h.tape,k.output.trans h.output,AZ h.size k.size,λi hi e=>(k.block i (Nat.lt_of_lt_of_le hi h.size) e).trans (h.block i hi e)⟩
theorem Kp.mono (h:Kp B X w w')(hs:∀x,x<w.1.size->X' x->X x):Kp B X' w w':=⟨h.os,h.tape,h.output,h.size,λk e f=>h.block k e (f.imp id (hs k e))⟩
theorem Kp.cell {p:Addr}(h:Kp B X w w')(hp:p.block<w.1.size)(hx:p.block<B\/X p.block):w'.cell? p=w.cell? p:=AY (w:=w) (h.block p.block hp hx)
end
section
variable {B:Nat}{X X':NP}{w w':WD}{A:OA}{n:Nat}{l:LU}
end
section
variable {B:Nat}{X:NP}{w w':WD}{bp:Nat}{D D':DM}
theorem Vk.keep {S:NP}(h:Vk w bp S D)(hk:∀k,k<w.1.size->S k->w'.1[k]?=w.1[k]?):Vk w' bp S D:=by
 obtain⟨e,f,l,c,v,L⟩:=h;exact⟨e,f,l,c,v,L.keep hk⟩
theorem Vk.mono {S S':NP}(h:Vk w bp S D)(hk:∀k,k<w.1.size->S k->S' k):Vk w bp S' D:=by
 obtain⟨e,f,l,c,v,L⟩:=h;exact⟨e,f,l,c,v,L.mono hk⟩
def DM.ok (D:DM)(m:Nat):Prop:=D.steps<=m/\∀k,(D.Zq k).length<=m
theorem DM.ok.mono {D:DM}{m m':Nat}(h:D.ok m)(hm:m<=m'):D.ok m':=⟨by have:=h.1;omega,λk=>by have:=h.2 k;omega⟩
end
section
open Go.ChangeShapes Go.WideShapes Go.ChangeAt
def i64 (z:Int):Prop:=-9223372036854775808<=z/\z<=9223372036854775807
section
variable {H:Type}{enc:TypeId × Value->H}{P:Program}{W:WD}
end
section
variable {w w':WD}{A:OA}{n c:Nat}{ps:List (Int × Int)}
end
end
section
open Go.ChangeShapes Go.WideShapes Go.ChangeAt Go.Deep
structure Pz where
 z:Int
 d:Int
 x:Qm
def Pz.vs (o:Pz):LV:=[.int .i64 o.z,.int .i64 o.d,.string o.x.name,.int .i64 o.x.ino,.int .i64 o.x.kind]
structure Pz.here (o:Pz):Prop where
 z:i64 o.z
 d:i64 o.d
def Qad (w:WD)(A:OA)(n c:Nat)(os:List Pz):Prop:=Jp w 5 A n c (os.map Pz.vs)/\∀o∈os,o.here
def Gm (os:List Pz)(j:Nat):Pz:=os.getD j ⟨0,0,⟨⟨#[]⟩,0,0⟩⟩
theorem Qad.cell {w:WD}{A:OA}{n c:Nat}{os:List Pz}(h:Qad w A n c os){j:Nat}(hj:j<n):∃g o,A=some ⟨g,o,none⟩/\g<w.1.size/\(Gm os j).here/\
  ∀w',Below w.1.size w w'->w'.cell? ⟨g,o+j*5,none⟩=some (.int .i64 (Gm os j).z)/\w'.cell? ⟨g,o+j*5+1,none⟩=some (.int .i64 (Gm os j).d)/\w'.cell? ⟨g,o+j*5+2,none⟩=some (.string (Gm os j).x.name)/\w'.cell? ⟨g,o+j*5+3,none⟩=some (.int .i64 (Gm os j).x.ino)/\w'.cell? ⟨g,o+j*5+4,none⟩=some (.int .i64 (Gm os j).x.kind):=by
 obtain⟨h1,h2⟩:=h;have u:os.length=n:=by have:=h1.1;rwa [AF] at this
 have q:os[j]?=some (Gm os j):=by unfold Gm;simp[List.getD,show j<os.length by omega]
 obtain⟨g,o,rfl,e,_,m⟩:=h1.2.2.2 j _ (by rw[BA,q];rfl);refine⟨g,o,rfl,e,h2 _ (List.mem_of_getElem? q),λw' f=>?_⟩;exact⟨(f.cell (p:=⟨g,_,none⟩) e).trans (m 0 _ rfl),(f.cell (p:=⟨g,_,none⟩) e).trans (m 1 _ rfl),(f.cell (p:=⟨g,_,none⟩) e).trans (m 2 _ rfl),(f.cell (p:=⟨g,_,none⟩) e).trans (m 3 _ rfl),(f.cell (p:=⟨g,_,none⟩) e).trans (m 4 _ rfl)⟩
section
variable {H:Type}{enc:TypeId × Value->H}{W:WD}
theorem qao {P:Program}{e:TypeId}:∀{l:List (DataW H)} {d:DataW H},d∈l->∀n∈d.weights P e,n∈DataW.weightsAll P e l
 |d'::r,d,hd,n,hn=>by
  simp only[DataW.weightsAll,List.mem_append];rcases List.mem_cons.1 hd with rfl|h
  ·exact Or.inl hn
  ·exact Or.inr (qao h n hn)
theorem qqi {P:Program}{t e:TypeId}{s:Nat}(hs:0<s)(U:P.underlying t=some (.slice e))(hc:P.cellsOf e=s){fuel:Nat}{v:Value}{y:DataW H × List MemPlace}
  (hf:DataW.trod enc P W 0 (λ_=>true) true fuel t [v]=some y):∃A n c G,v=.slice A n c/\Jp W s A n c G/\∀r∈G,∃f x,DataW.trod enc P W 0 (λ_=>true) true f e r=some x/\∀n∈x.1.weights P e,n∈y.1.weights P t:=by
 rcases Deep.open_slice U hf with⟨u,_⟩|⟨a,len,cap,m,f,D,Pl,u,_,hl,hm,K,hy,hi⟩
 ·obtain rfl:v=.slice none 0 0:=by simpa using u
  exact⟨_,_,_,[],rfl,q6n W s,λr M=>by simp at M⟩
 ·obtain rfl:v=.slice (some a) len cap:=by simpa using u
  rw[AA rfl] at K;have key:∀i,i<len->∃q:LV,q.length=s/\(∀j,j<s->W.cell? ((a.add (i*s)).add j)=q[j]?)/\∃f x,DataW.trod enc P W 0 (λ_=>true) true f e q=some x/\∀n∈x.1.weights P e,n∈y.1.weights P t:=λi J=>by
   obtain⟨q,Q,g2⟩:=hi i (by omega);rw[hc] at Q;obtain⟨_,E,I⟩:=World.cells?_some Q;refine⟨q,E,λj p=>I j p,_,_,g2,λn hn=>?_⟩;rw[hy];simp only[DataW.weights,U,List.mem_cons,List.mem_append];exact .inr (.inl (qao (List.mem_map.2 ⟨i,List.mem_range.2 J,rfl⟩) n hn))
  obtain⟨g,o,Z⟩:=a;have ks:0<len->Z=none:=λh0=>by
   obtain⟨q,h1,h2,_⟩:=key 0 h0;have R:=h2 0 hs;rw[AC (by omega)] at R;exact qpg (show W.cell? ⟨g,o,Z⟩=some (q[0]'(by omega)) by simpa [Addr.add] using R)
  classical
  let F:Nat->LV:=λi=>if h:i<len then (key i h).choose else []
  have hF:∀i (h:i<len),F i=(key i h).choose:=λi h=>dif_pos h
  refine⟨_,_,_,(List.range len).map F,rfl,⟨by simp,hl,hm,λj x O=>?_⟩,λr M=>?_⟩
  ·have p:j<len:=by have:=(List.getElem?_eq_some_iff.1 O).1;simpa using this
   rw[BA,List.getElem?_range p] at O;obtain rfl:F j=x:=by simpa using O
   obtain rfl:=ks (by omega);rw[hF j p];have T:=(key j p).choose_spec;generalize (key j p).choose=X at T ⊢;obtain⟨q1,q2,_⟩:=T;have Y:∀i v,X[i]?=some v->W.cell? ⟨g,o+j*s+i,none⟩=some v:=λi v V=>by
    have hi:i<s:=by have:=(List.getElem?_eq_some_iff.1 V).1;omega
    have:=q2 i hi;rw[Addr.add_mid,Addr.add_mid,V] at this;exact this
   exact⟨g,o,rfl,World.block_lt_of_cell? W _ (Y 0 _ (AC (by omega))),q1,Y⟩
  ·obtain⟨j,p,rfl⟩:=List.mem_map.1 M;have p:=List.mem_range.1 p;rw[hF j p];exact (key j p).choose_spec.2.2
theorem qlg {m:Nat}{c:Value}{y:DataW H × List MemPlace}(h:DataW.trod enc prog W 0 (λ_=>true) true m 3 [c]=some y):∃z,c=.int .i64 z/\i64 z:=by
 obtain⟨z,e,_,f⟩:=DataW.trod_int underlying3 h;exact⟨z,by simpa using e,bounds_i64 f⟩
theorem qo0 {α:Type}{e:List (LV)}{Q:α->Prop}{f:α->LV}(h:∀r∈e,∃x,r=f x/\Q x):∃m:List α,e=m.map f/\∀x∈m,Q x:=by
 induction e with
 |nil=>exact⟨[],rfl,λx p=>by cases p⟩
 |cons r l ih=>
  obtain⟨x,p,u⟩:=h r (AP ..);obtain⟨m,h1,h2⟩:=ih λr E=>h r (AO _ E)
  exact⟨x::m,by rw[BJ,<-p,<-h1],λy q=>by
   rcases List.mem_cons.1 q with rfl|q
   ·exact u
   ·exact h2 y q⟩
theorem qo1 {α:Type}:∀{l:List α},l.length=5->∃a b c d e,l=[a,b,c,d,e]
 |[a,b,c,d,e],_=>⟨a,b,c,d,e,rfl⟩
theorem qgm {m:Nat}{c:Value}{y:DataW H × List MemPlace}(h:DataW.trod enc prog W 0 (λ_=>true) true m 3 [c]=some y):∃z,c=.int .i64 z:=by
 obtain⟨z,e,_,_⟩:=DataW.trod_int underlying3 h;exact⟨z,by simpa using e⟩
theorem qvl {fuel:Nat}{v0 f p:Value}{y:DataW H × List MemPlace}(M:DataW.trod enc prog W 0 (λ_=>true) true fuel 32 [v0,f,p]=some y):∃x:Qm,[v0,f,p]=x.vs:=by
 obtain⟨q,m,_,_,U,E,e⟩:=DataW.trod_struct underlying32 M;have O:prog.cellsOf 3=1:=by kernel_rfl
 have Q:prog.cellsOf 9=1:=by kernel_rfl
 have F:DataW.trod enc prog W 0 (λ_=>true) true m 9 (List.take (prog.cellsOf 9) (List.drop 0 [v0,f,p]))=q[0]?:=e 0 _ rfl;have G:DataW.trod enc prog W 0 (λ_=>true) true m 3 (List.take (prog.cellsOf 3) (List.drop 1 [v0,f,p]))=q[1]?:=e 1 _ rfl;have I:DataW.trod enc prog W 0 (λ_=>true) true m 3 (List.take (prog.cellsOf 3) (List.drop 2 [v0,f,p]))=q[2]?:=e 2 _ rfl;have V:q.length=3:=E;rw[O,AC (by omega)] at G I;rw[Q,AC (by omega)] at F;obtain⟨s,u,_,_⟩:=DataW.trod_string underlying9 F;have u:v0=.string s:=by simpa using u
 obtain⟨R,J⟩:=qgm (by simpa using G);obtain⟨T,K⟩:=qgm (by simpa using I);exact⟨⟨s,R,T⟩,by rw[u,J,K];rfl⟩
theorem qvm {fuel:Nat}{q:LV}{y:DataW H × List MemPlace}(M:DataW.trod enc prog W 0 (λ_=>true) true fuel 34 q=some y):∃o:Pz,q=o.vs/\o.here:=by
 obtain⟨p,m,_,V,O,E,e⟩:=DataW.trod_struct underlying34 M;have u:q.length=5:=by rw[O];kernel_rfl
 obtain⟨v0,F,f,v3,v4,rfl⟩:=qo1 u;have R:prog.cellsOf 3=1:=by kernel_rfl
 have T:prog.cellsOf 32=3:=by kernel_rfl
 have G:DataW.trod enc prog W 0 (λ_=>true) true m 3 (List.take (prog.cellsOf 3) (List.drop 0 [v0,F,f,v3,v4]))=p[0]?:=e 0 _ rfl;have I:DataW.trod enc prog W 0 (λ_=>true) true m 3 (List.take (prog.cellsOf 3) (List.drop 1 [v0,F,f,v3,v4]))=p[1]?:=e 1 _ rfl;have J:DataW.trod enc prog W 0 (λ_=>true) true m 32 (List.take (prog.cellsOf 32) (List.drop 2 [v0,F,f,v3,v4]))=p[2]?:=e 2 _ rfl;have U:p.length=3:=E;rw[R,AC (by omega)] at G I;rw[T,AC (by omega)] at J;obtain⟨z,rfl,Q⟩:=qlg (by simpa using G);obtain⟨d,rfl,hd⟩:=qlg (by simpa using I);obtain⟨x,K⟩:=qvl (by simpa using J);refine⟨⟨z,d,x⟩,?_,⟨Q,hd⟩⟩;show Value.int .i64 z::.int .i64 d::[f,v3,v4]=Value.int .i64 z::.int .i64 d::x.vs;rw[K]
theorem qgn {v:Value}{d:DataW H}{ps:List MemPlace}(F:∃a len cap,v=.slice a len cap)(h:DataW.Trod enc prog W 0 (λ_=>true) true 22 v d ps):∃A n c os,v=.slice A n c/\Qad W A n c os:=by
 obtain⟨a,len,cap,rfl⟩:=F;obtain⟨m,p⟩:=h;obtain⟨A,n,c,I,e,E,u⟩:=qqi (s:=5) (by omega) underlying22 (by kernel_rfl) p;obtain⟨os,rfl,q⟩:=qo0 (f:=Pz.vs) (Q:=λo=>o.here) λr hm=>by
  obtain⟨f,y,G,hn⟩:=u r hm;exact qvm G
 exact⟨A,n,c,os,e,E,q⟩
end
end
