/- Crash: each sector with cached writes is settled as what is kept tells, from the first on -/
import Derived.Test.YthkfkhejjmhomaaGreatDoorDz14
import Derived.BigQuiet
import Derived.Deep.QuietTactic
import Derived.Deep.Grids
namespace Go.Proofs.YthkfkhejjmhomaaGreatDoor
open Go Go.RowKit Go.Proofs
set_option maxHeartbeats 2000000
set_option maxRecDepth 100000
section
open Go.ChangeMaps (setBlock)
def Ints (w:World)(A:Option Addr)(n c:Nat)(zs:List Int):Prop:=Holds w w.1.size A n c (zs.map (Value.int .i64))/\∀z∈zs,-9223372036854775808<=z/\z<=9223372036854775807
section
variable {w w':World}{A:Option Addr}{n c:Nat}{zs:List Int}{S:Nat->Prop}
theorem Ints.len (h:Ints w A n c zs):zs.length=n:=by simpa using h.1.1
theorem Ints.cap (h:Ints w A n c zs):n<=c:=h.1.2.1
end
end
section
open Go.ChangeMaps (setBlock)
def DM.flush (D:DM):DM:={ D with Ze:=D.newest,Zd:=λ_=>[] }
def DM.Z5 (D:DM):DM:=if D.stop then D.stepD else D.stepD.flush
structure Fl (D D':DM):Prop where
 n:D'.n=D.n
 off:D'.off=D.off
 fused:D'.fused=D.fused
 left:D'.left=D.left
 steps:D'.steps=D.steps
 cap:D'.cap=D.cap
 at_:∀s,(D'.Zd s=D.Zd s/\D'.Ze s=D.Ze s)\/(D'.Zd s=[]/\D'.Ze s=D.newest s)
theorem Fl.refl (D:DM):Fl D D:=⟨rfl,rfl,rfl,rfl,rfl,rfl,λ_=>.inl ⟨rfl,rfl⟩⟩
theorem Qv4 {α:Type}(l:List α)(a d:α)(h:l≠[]):l.getD (l.length-1) d=l.getLastD a:=by
 have h0:0<l.length:=List.length_pos_iff.2 h;rw[List.getD_eq_getElem?_getD,List.getElem?_eq_getElem (by omega),List.getLastD_eq_getLast?,List.getLast?_eq_some_getLast h,List.getLast_eq_getElem];rfl
theorem Fl.settle {D D':DM}(h:Fl D D')(s:Nat)(hs:D'.Zd s≠[]):Fl D (D'.settle s (D'.Zd s).length):=by
 have h0:(D'.Zd s).length≠0:=λe=>hs (List.eq_nil_of_length_eq_zero e)
 refine⟨h.n,h.off,h.fused,h.left,h.steps,h.cap,λz=>?_⟩;have hd:(D'.settle s (D'.Zd s).length).Ze=upd D'.Ze s ((D'.Zd s).getD ((D'.Zd s).length-1) []):=by unfold DM.settle;rw[if_neg h0]
 by_cases d:z=s
 ·right
  subst d;refine⟨Y9 _ _ _,?_⟩;rw[hd,Y9];rcases h.at_ z with⟨h1,h2⟩|⟨h1,_⟩
  ·rw[Qv4 _ (D'.Ze z) _ hs,h1,h2];rfl
  ·exact absurd h1 hs
 ·rw[hd];show (upd D'.Zd s [] z=D.Zd z/\upd D'.Ze s _ z=D.Ze z)\/(upd D'.Zd s [] z=[]/\upd D'.Ze s _ z=D.newest z);rw[Y8 _ _ d,Y8 _ _ d];exact h.at_ z
theorem Fl.done {D D':DM}(h:Fl D D')(hc:∀s,D'.Zd s=[]):D'=D.flush:=by
 obtain⟨n,Ze,Zd,off,fused,left,steps,cap⟩:=D';obtain⟨h1,h2,f,g,m,q,p⟩:=h;simp only at h1 h2 f g m p q hc;subst h1 h2 f g m q;have d:Zd=λ_=>[]:=funext hc
 have e:Ze=D.newest:=funext λs=>by
  rcases p s with⟨a,b⟩|⟨_,b⟩
  ·rw[b];unfold DM.newest;rw[<-a,hc s];rfl
  ·exact b
 subst d e;rfl
theorem Lay.tight {w:World}{bp bd bm clock:Nat}{l:List MapEntry}{v:Nat->Value}{S:Nat->Prop}{D:DM}(L:Lay w bp bd bm l clock v S D):Lay w bp bd bm l clock v (λk=>S k/\k<w.1.size) D:=L.mono λ_ h1 h2=>⟨h2,h1⟩
def Qfn (w:World)(b:Nat):Nat:=match w.1[b]? with|some (.map es _)=>es.size|_=>0
theorem Qi7 {w:World}{b clock:Nat}{l:List MapEntry}(h:w.1[b]?=some (.map l.toArray clock)):Qfn w b=l.length:=by unfold Qfn;rw[h];simp
theorem flush_any {w:World}{bp:Nat}{S:Nat->Prop}{D:DM}(L0:Drv w bp S D)(b0:D.steps<=1000000000)(_:∀k,(D.Zd k).length<=1000000) :
  Calls Tryz.prog 135 #[.pointer (some ⟨bp,0,none⟩)] w λe w'=>e=.returned (.int .i64 D.err)/\Drv w' bp S D.Z5/\Turn S w w':=by
 obtain⟨bd,g,l,clock,v,L⟩:=L0;have K:=Qqa L b0;have a2:∀k,k=bp->S k:=λk e=>e▸L.Zk.1
 unfold DM.Z5;unfold DM.err at K ⊢
 cases u:D.stop with
 |true=>
  rw[u] at K;go_enter Tryz.func135,Tryz.ntmps135
  go_wp2_with fail
  refine K.mono ?_;rintro e f ⟨rfl,M,T1⟩;go_wp2_with fail
  go_ret;exact⟨rfl,⟨_,_,_,_,_,M⟩,T1.mono a2⟩
 |false=>
  rw[u] at K;go_enter Tryz.func135,Tryz.ntmps135
  go_wp2_with fail
  refine K.mono ?_;rintro e f ⟨rfl,M,T1⟩;have c1:=M.c1;have a8:=run_range_map (P:=Tryz.prog) f 150 _ _ g l.toArray clock Tryz.underlying150 M.map;go_wp2_with fail
  have a1:∀k,(S k/\k<f.1.size)->k≠f.1.size:=λk h=>by omega
  have Q:Turn (λk=>S k/\k<f.1.size) f (f.alloc (Obj.mapIter (some g) clock #[] clock)):=Qs3 _ _ _;go_loopw [4] (λ_ wr=>∃(l:List MapEntry) (v:Nat->Value) (D':DM) (d:Array Nat),Lay wr bp bd g l clock v (λk=>S k/\k<f.1.size) D'/\Fl D.stepD D'/\wr.1[f.1.size]?=some (.mapIter (some g) clock d clock)/\(∀e∈l,d.contains e.born=false)/\
   Turn (λk=>S k/\k<f.1.size) f wr) (λ_ wr=>Qfn wr g)
  case atStart=>exact⟨l,v,D.stepD,#[],M.tight.keep λk hk _=>heap_alloc_old f _ hk,Fl.refl _,heap_alloc_new f _,λ_ _=>by simp,Q⟩
  case round=>
   clear c1 a8 Q;obtain⟨l,v,D',d,L,F,V,q,T⟩:=hrel;have hE:leftOf l.toArray d=l.toArray:=by
    unfold leftOf;rw[Array.filter_eq_self];intro e m;rw[q e (by simpa using m)];rfl
   rcases run_next_at (P:=Tryz.prog) wr 0 f.1.size g clock clock d l.toArray clock V L.map (λx G=>L.ents.clock x (by simpa using G)) (Nat.le_refl _) with⟨h0,E⟩|⟨e,m,J,R,E⟩
   ·rw[hE] at h0;obtain rfl:l=[]:=List.eq_nil_of_length_eq_zero (by simpa using h0);have I:D'=D.stepD.flush:=F.done λs=>by
     have:=L.look s;unfold Qd at this;by_cases h:D'.Zd s=[]
     ·exact h
     ·rw[if_neg h] at this;cases this
    subst I;go_wp2_with fail
    go_ret;exact⟨rfl,⟨_,_,_,_,_,L.mono λ_ _ h=>h.1⟩,(T1.mono a2).then (T.mono λ_ h=>h.1)⟩
   ·rw[hE] at m;have m:e∈l:=by simpa using m
    obtain⟨s,hs,y⟩:=L.keys e m;have H:D'.Zd s≠[]:=λh=>by
     have h1:=L.look s;rw[if_pos h,<-y,Ih L.ents.one m] at h1;cases h1
    have a6:e.val=v s:=by
     have h1:=L.look s;rw[if_neg H,<-y,Ih L.ents.one m] at h1;exact Option.some.inj h1
    have Y:e.key=.int .i64 (s:Int):=by rw[L.ents.key e m,y]
    obtain⟨A0,c0,b1,_⟩:=Qz4 (L.row s);have b4:f.1.size<wr.1.size:=Jq V;have b5:J.1.size=wr.1.size:=by rcases R with rfl|rfl<;>rfl
    have T2:Turn (λk=>k=f.1.size) wr J:=by
     rcases R with rfl|rfl
     ·exact Turn.refl _ _
     ·exact (Turn.refl _ _).drew
    have T3:=T2.then (Gh (w:=J) (.mapIter (some g) clock (d.push e.born) clock) (b:=f.1.size) (S:=λk=>k=f.1.size) rfl);have L3:=L.keep (w':=setBlock J f.1.size (.mapIter (some g) clock (d.push e.born) clock)) λk hk h=>T3.block k hk (a1 k h)
    have p:(setBlock J f.1.size (.mapIter (some g) clock (d.push e.born) clock)).1[f.1.size]?=some (.mapIter (some g) clock (d.push e.born) clock):=Gl (by omega);have U:=run_entry_at (P:=Tryz.prog) _ f.1.size g clock d l.toArray clock e p L3.map (by simpa using m) (by simpa using L.ents.born);rw[Y,a6,b1] at E U;have H3:=Qsr L3 s hs (D'.Zd s).length (Nat.le_refl _);have a7:Qfn wr g=l.length:=Qi7 L.map;go_wp2_with fail
    refine H3.mono ?_;rintro e5 w5 ⟨rfl,L5,T5⟩;have O:Turn (λk=>S k/\k<f.1.size) (setBlock J f.1.size (.mapIter (some g) clock (d.push e.born) clock)) w5:=T5.mono λx G=>by rcases G with h|h;exact h▸L.Zk.2.1;exact h▸L.Zk.2.2.1
    have W:w5.1[f.1.size]?=some (.mapIter (some g) clock (d.push e.born) clock):=(O.block _ (Jq p) (λh=>a1 _ h rfl)).trans p;have z:∀x∈Q9 (s:Int) l,(d.push e.born).contains x.born=false:=λx G=>by
     rw[contains_push,q x (V4 G),Bool.false_or,beq_eq_false_iff_ne];intro hb;have b2:=born_inj L.ents.born (V4 G) m hb;subst b2;have h1:=Ih (L.ents.del (s:Int)).one G;rw[Ad _ L.ents.one,y,if_pos rfl] at h1
     cases h1
    have Z:Qfn w5 g=l.length-1:=by
     rw[Qi7 L5.map,Qiy,if_neg (by rw[L.look s,if_neg H];simp)]
    have b3:0<l.length:=List.length_pos_iff.2 λh=>by rw[h] at m;cases m
    go_wp2_with fail
    have T6:Turn (λk=>S k/\k<f.1.size) f w5:=(T.trans T3 (λx G=>.inr (by omega))).then O;exact⟨⟨_,_,_,_,L5,F.settle s H,W,z,T6⟩,by rw[Z,a7];omega⟩
end
inductive Stp where
 |w (s:Nat) (x:List UInt8)
 |fl
def Stp.ok (n:Nat):Stp->Prop
 |.w s x=>s<n/\x.length=256
 |.fl=>True
def DM.does (D:DM):Stp->DM
 |.w s x=>D.Jd s x
 |.fl=>D.Z5
def DM.says (D:DM):Stp->Int
 |.w s x=>D.Qo s x
 |.fl=>D.err
def DM.Jo (D:DM):List Stp->Int
 |[]=>0
 |a::l=>if D.says a=0 then (D.does a).Jo l else D.says a
def DM.Qn (D:DM):List Stp->DM
 |[]=>D
 |a::l=>if D.says a=0 then (D.does a).Qn l else D.does a
theorem Qbd (a b:List Stp):∀D:DM,D.Jo (a++b)=if D.Jo a=0 then (D.Qn a).Jo b else D.Jo a:=by
 induction a with
 |nil=>intro D;simp[DM.Jo,DM.Qn]
 |cons x a ih=>
  intro D;show (if D.says x=0 then (D.does x).Jo (a++b) else D.says x)=_;by_cases h:D.says x=0
  ·rw[if_pos h,ih];simp only[DM.Jo,DM.Qn,if_pos h]
  ·simp only[DM.Jo,if_neg h]
theorem Qbc (a b:List Stp):∀D:DM,D.Qn (a++b)=if D.Jo a=0 then (D.Qn a).Qn b else D.Qn a:=by
 induction a with
 |nil=>intro D;simp[DM.Jo,DM.Qn]
 |cons x a ih=>
  intro D;show (if D.says x=0 then (D.does x).Qn (a++b) else D.does x)=_;by_cases h:D.says x=0
  ·rw[if_pos h,ih];simp only[DM.Jo,DM.Qn,if_pos h]
  ·simp only[DM.Jo,DM.Qn,if_neg h]
structure Mem where
 Ze:Nat->List UInt8
 Zd:Nat->List (List UInt8)
def DM.mem (D:DM):Mem:=⟨D.Ze,D.Zd⟩
def Mem.newest (M:Mem)(s:Nat):List UInt8:=(M.Zd s).getLastD (M.Ze s)
def Mem.go (M:Mem):Stp->Mem
 |.w s x=>⟨M.Ze,upd M.Zd s (M.Zd s++[x])⟩
 |.fl=>⟨M.newest,λ_=>[]⟩
def Mem.Xz (M:Mem):List Stp->Mem
 |[]=>M
 |a::l=>(M.go a).Xz l
theorem Gs (a b:List Stp):∀M:Mem,M.Xz (a++b)=(M.Xz a).Xz b:=by
 induction a with
 |nil=>intro M;rfl
 |cons x a ih=>intro M;exact ih _
theorem Fv {D:DM}{a:Stp}(e:a.ok D.n)(h:D.stop=false):D.says a=0/\(D.does a).mem=D.mem.go a/\(D.does a).n=D.n/\(D.does a).cap=D.cap/\(D.does a).off=false/\(D.does a).fused=D.fused/\(D.does a).left=(if D.fused then D.left-1 else D.left)/\(D.does a).steps=D.steps+1:=by
 have d:D.stepD={ D with off:=false,left:=if D.fused then D.left-1 else D.left,steps:=D.steps+1 }:=by unfold DM.stepD;rw[h];rfl
 cases a with
 |w s x=>
  have f:D.bad s x=false:=by unfold DM.bad;exact decide_eq_false (by rintro (h1|h1);exact h1 ⟨by omega,by have:=e.1;omega⟩;exact h1 e.2)
  refine⟨by show D.Qo s x=0;unfold DM.Qo DM.err;rw[f,h];rfl,?_⟩;have:D.does (.w s x)={ D.stepD with Zd:=upd D.Zd s (D.Zd s++[x]) }:=by
   show D.Jd s x=_;unfold DM.Jd;rw[f,h];rfl
  rw[this,d];exact⟨rfl,rfl,rfl,rfl,rfl,rfl,rfl⟩
 |fl=>
  refine⟨by show D.err=0;unfold DM.err;rw[h];rfl,?_⟩;have:D.does .fl=D.stepD.flush:=by
   show D.Z5=_;unfold DM.Z5;rw[h];rfl
  rw[this,d];exact⟨rfl,rfl,rfl,rfl,rfl,rfl,rfl⟩
theorem Eb {D:DM}{a:Stp}(e:a.ok D.n)(h:D.stop=true):D.says a=4/\(D.does a).mem=D.mem/\(D.does a).n=D.n/\(D.does a).cap=D.cap/\(D.does a).off=true/\(D.does a).fused=D.fused/\(D.does a).left=D.left/\(D.does a).steps=D.steps:=by
 have d:D.stepD={ D with off:=true,left:=D.left,steps:=D.steps }:=by unfold DM.stepD;rw[h];rfl
 cases a with
 |w s x=>
  have f:D.bad s x=false:=by unfold DM.bad;exact decide_eq_false (by rintro (h1|h1);exact h1 ⟨by omega,by have:=e.1;omega⟩;exact h1 e.2)
  refine⟨by show D.Qo s x=4;unfold DM.Qo DM.err;rw[f,h];rfl,?_⟩;have:D.does (.w s x)=D.stepD:=by
   show D.Jd s x=_;unfold DM.Jd;rw[f,h];rfl
  rw[this,d];exact⟨rfl,rfl,rfl,rfl,rfl,rfl,rfl⟩
 |fl=>
  refine⟨by show D.err=4;unfold DM.err;rw[h];rfl,?_⟩;have:D.does .fl=D.stepD:=by
   show D.Z5=_;unfold DM.Z5;rw[h];rfl
  rw[this,d];exact⟨rfl,rfl,rfl,rfl,rfl,rfl,rfl⟩
def DM.room (D:DM)(m:Nat):Nat:=if D.off then 0 else if D.fused then min D.left m else m
theorem Fz (D:DM)(m:Nat):D.room m<=m:=by unfold DM.room;split;omega;split<;>omega
theorem E5 (l:List Stp):∀D:DM,(∀a∈l,a.ok D.n)->
  (D.Qn l).mem=D.mem.Xz (l.take (D.room l.length))/\(D.Qn l).n=D.n/\(D.Qn l).cap=D.cap/\(D.Qn l).fused=D.fused/\(D.Qn l).steps=D.steps+D.room l.length/\(D.Qn l).left=(if D.fused then D.left-D.room l.length else D.left)/\
   ((D.room l.length=l.length/\D.Jo l=0/\(D.Qn l).off=D.off)\/(D.room l.length<l.length/\D.Jo l=4/\(D.Qn l).off=true)):=by
 induction l with
 |nil=>
  intro D _;have m:D.room 0=0:=Nat.le_zero.1 (Fz D 0);show D.mem=D.mem.Xz (List.take (D.room 0) [])/\_;rw[show ([]:List Stp).length=0 from rfl,m];exact⟨rfl,rfl,rfl,rfl,rfl,by split<;>rfl,.inl ⟨rfl,rfl,rfl⟩⟩
 |cons a l ih=>
  intro D d;have I:=d a (List.mem_cons_self ..)
  cases h:D.stop with
  |true=>
   obtain⟨f,z,p,E,q,g,u,F⟩:=Eb I h;have m:D.room (a::l).length=0:=by
    unfold DM.stop at h;unfold DM.room
    cases e:D.off with
    |true=>rfl
    |false=>
     rw[e,Bool.false_or,Bool.and_eq_true,decide_eq_true_iff] at h;rw[h.1,h.2];simp
   have G:D.Qn (a::l)=D.does a:=by show (if D.says a=0 then _ else _)=_;rw[if_neg (by rw[f];decide)]
   have H:D.Jo (a::l)=4:=by show (if D.says a=0 then _ else _)=_;rw[if_neg (by rw[f];decide),f]
   rw[G,H,m];exact⟨z,p,E,g,F,by rw[u];split<;>rfl,.inr ⟨by simp,rfl,q⟩⟩
  |false=>
   obtain⟨f,z,p,E,q,g,u,F⟩:=Fv I h;have e:D.off=false:=by unfold DM.stop at h;cases e:D.off with|true=>rw[e] at h;simp at h|false=>rfl
   have K:D.fused=true->0<D.left:=λy=>by
    unfold DM.stop at h;rw[e,y] at h;simp at h;omega
   have G:D.Qn (a::l)=(D.does a).Qn l:=by show (if D.says a=0 then _ else _)=_;rw[if_pos f]
   have H:D.Jo (a::l)=(D.does a).Jo l:=by show (if D.says a=0 then _ else _)=_;rw[if_pos f]
   have m:D.room (a::l).length=(D.does a).room l.length+1:=by
    unfold DM.room;rw[e,q,g,u]
    cases y:D.fused with
    |true=>have:=K y;simp;omega
    |false=>simp
   obtain⟨M,O,P,Q,R,T,U⟩:=ih (D.does a) (λb J=>by rw[p];exact d b (List.mem_cons_of_mem _ J));rw[G,H,m];refine⟨by rw[M,z];rfl,O.trans p,P.trans E,Q.trans g,by rw[R,F];omega,?_,?_⟩
   ·rw[T,g,u]
    cases y:D.fused with
    |true=>simp;omega
    |false=>simp
   ·rw[e];rcases U with⟨j1,j2,j3⟩|⟨j1,j2,j3⟩
    ·exact .inl ⟨by simp[j1],j2,j3.trans q⟩
    ·exact .inr ⟨by simp;exact j1,j2,j3⟩
def Qp (s:Nat):List Stp->List UInt8->List UInt8
 |[],d=>d
 |.w t x::l,d=>Qp s l (if t=s then x else d)
 |.fl::l,d=>Qp s l d
theorem G7 (M:Mem)(a:Stp)(s:Nat):(M.go a).newest s=(match a with|.w t x=>if t=s then x else M.newest s|.fl=>M.newest s):=by
 cases a with
 |w t x=>
  show (upd M.Zd t (M.Zd t++[x]) s).getLastD (M.Ze s)=if t=s then x else _
  by_cases h:t=s
  ·subst h;rw[Y9,if_pos rfl];simp[List.getLastD_eq_getLast?]
  ·rw[Y8 _ _ (λe=>h e.symm),if_neg h];rfl
 |fl=>rfl
theorem Um (s:Nat):∀(l:List Stp) (M:Mem),(M.Xz l).newest s=Qp s l (M.newest s)
 |[],M=>rfl
 |.w t x::l,M=>by
  show ((M.go (.w t x)).Xz l).newest s=Qp s l (if t=s then x else M.newest s);rw[Um s l,G7]
 |.fl::l,M=>by
  show ((M.go .fl).Xz l).newest s=Qp s l (M.newest s);rw[Um s l,G7]
theorem q01 (s:Nat):∀(a b:List Stp) (d:List UInt8),Qp s (a++b) d=Qp s b (Qp s a d)
 |[],_,_=>rfl
 |.w _ _::a,b,_=>q01 s a b _
 |.fl::a,b,_=>q01 s a b _
def spares (s:Nat)(l:List Stp):Prop:=∀t x,Stp.w t x∈l->t≠s
theorem Vo {s:Nat}:∀{l:List Stp} (_:spares s l) (d:List UInt8),Qp s l d=d
 |[],_,_=>rfl
 |.w t x::l,h,d=>by
  show Qp s l (if t=s then x else d)=d;rw[if_neg (h t x (List.mem_cons_self ..))];exact Vo (λt x e=>h t x (List.mem_cons_of_mem _ e)) d
 |.fl::l,h,d=>Vo (l:=l) (λt x e=>h t x (List.mem_cons_of_mem _ e)) d
def Bh (A:List Stp)(slot:Nat)(d:List UInt8):List Stp:=A++.fl::[.w slot d,.fl]
def Ya (at_:Nat)(l:List (List UInt8)):List Stp:=(List.range l.length).map λi=>.w (at_+i) (l.getD i [])
theorem F5 (at_:Nat)(l:List (List UInt8)):(Ya at_ l).length=l.length:=by unfold Ya;simp
theorem Aj {at_:Nat}{l:List (List UInt8)}{s:Nat}{x:List UInt8}(h:Stp.w s x∈Ya at_ l):∃i,i<l.length/\s=at_+i/\x=l.getD i []:=by
 unfold Ya at h;rw[List.mem_map] at h;obtain⟨i,hi,e⟩:=h;injection e with d f;exact⟨i,List.mem_range.1 hi,d.symm,f.symm⟩
theorem Dn {at_:Nat}{l:List (List UInt8)}{s:Nat}(h:s<at_\/at_+l.length<=s):spares s (Ya at_ l):=λt x d=>by
 obtain⟨i,hi,e,_⟩:=Aj d;omega
theorem G8 (g:Nat->List UInt8)(at_:Nat):∀(k i:Nat) (d:List UInt8),Qp (at_+i) ((List.range k).map λi=>Stp.w (at_+i) (g i)) d=if i<k then g i else d
 |0,i,d=>rfl
 |k+1,i,d=>by
  rw[List.range_succ,List.map_append,q01,G8 g at_ k i d];show (if at_+k=at_+i then g k else _)=_;by_cases h:i=k
  ·subst h;rw[if_pos rfl,if_pos (by omega)]
  ·rw[if_neg (by omega)];by_cases h2:i<k
   ·rw[if_pos h2,if_pos (by omega)]
   ·rw[if_neg h2,if_neg (by omega)]
theorem q35 (at_:Nat)(l:List (List UInt8))(i:Nat)(d:List UInt8)(h:i<l.length):Qp (at_+i) (Ya at_ l) d=l.getD i []:=by
 unfold Ya;rw[G8,if_pos h]
theorem Zbi (at_:Nat)(d:List (List UInt8)){j:Nat}(e:j<d.length):(Ya at_ d).take (j+1)=(Ya at_ d).take j++[.w (at_+j) (d.getD j [])]:=by
 have f:j<(Ya at_ d).length:=by rw[F5];exact e
 rw[List.take_add_one,List.getElem?_eq_getElem f];have:(Ya at_ d)[j]=.w (at_+j) (d.getD j []):=by simp[Ya]
 rw[this];rfl
structure Kp (B:Nat)(X:Nat->Prop)(w w':World):Prop where
 os:w'.os=w.os
 tape:w'.tape=w.tape
 output:w'.output=w.output
 size:w.heap.size<=w'.heap.size
 block:∀k,k<w.heap.size->(k<B\/X k)->w'.heap[k]?=w.heap[k]?
section
variable {B:Nat}{X X':Nat->Prop}{w w' w'':World}
theorem Kp.trans (h:Kp B X w w')(k:Kp B X w' w''):Kp B X w w'':=
 ⟨k.os.trans h.os,k.tape.trans h.tape,k.output.trans h.output,Nat.le_trans h.size k.size,λi hi d=>(k.block i (Nat.lt_of_lt_of_le hi h.size) d).trans (h.block i hi d)⟩
theorem Kp.mono (h:Kp B X w w')(hs:∀x,x<w.1.size->X' x->X x):Kp B X' w w':=⟨h.os,h.tape,h.output,h.size,λk d e=>h.block k d (e.imp id (hs k d))⟩
end
section
variable {B:Nat}{X X':Nat->Prop}{w w':World}{A:Option Addr}{n:Nat}{l:List UInt8}
end
section
variable {B:Nat}{X:Nat->Prop}{w w':World}{bp:Nat}{D D':DM}
theorem Drv.keep {S:Nat->Prop}(h:Drv w bp S D)(hk:∀k,k<w.1.size->S k->w'.1[k]?=w.1[k]?):Drv w' bp S D:=by
 obtain⟨d,e,l,c,v,L⟩:=h;exact⟨d,e,l,c,v,L.keep hk⟩
theorem Drv.mono {S S':Nat->Prop}(h:Drv w bp S D)(hk:∀k,k<w.1.size->S k->S' k):Drv w bp S' D:=by
 obtain⟨d,e,l,c,v,L⟩:=h;exact⟨d,e,l,c,v,L.mono hk⟩
def DM.ok (D:DM)(m:Nat):Prop:=D.steps<=m/\∀k,(D.Zd k).length<=m
theorem DM.ok.mono {D:DM}{m m':Nat}(h:D.ok m)(hm:m<=m'):D.ok m':=⟨by have:=h.1;omega,λk=>by have:=h.2 k;omega⟩
end
section
open Go.ChangeShapes Go.WideShapes Go.ChangeAt
def Bools (w:World)(A:Option Addr)(n c:Nat)(f:Nat->Bool):Prop:=n<=c/\c<=maxLen/\∀j,j<n->∃d,A=some d/\d.block<w.1.size/\w.cell? (d.add j)=some (.bool (f j))
theorem open_bools {H:Type}{enc:TypeId × Value->H}{P:Program}{W:World}{t e:TypeId}{v:Value}{d:DataW H}{K:List MemPlace}(I:P.underlying t=some (.slice e))(E:P.underlying e=some .bool)(z:P.cellsOf e=1)
  (J:∃a len cap,v=.slice a len cap) (h:DataW.Trod enc P W 0 (λ_=>true) true t v d K):∃A n c f,v=.slice A n c/\Bools W A n c f:=by
 obtain⟨q,F⟩:=h;obtain⟨a0,y,p,rfl⟩:=J;rcases Go.Deep.open_bools I E z F with⟨m,_⟩|⟨a,len,cap,B,m,_,G,hm,_,g⟩
 ·simp[Value.cells] at m;obtain⟨rfl,rfl,rfl⟩:=m;exact⟨_,_,_,λ_=>false,rfl,Nat.le_refl _,by unfold maxLen;omega,λj u=>absurd u (Nat.not_lt_zero _)⟩
 ·simp[Value.cells] at m;obtain⟨rfl,rfl,rfl⟩:=m;refine⟨_,_,_,B,rfl,G,hm,λj u=>⟨a,rfl,?_,g j (by omega)⟩⟩;have:=World.block_lt_of_cell? W (a.add j) (g j (by omega));rwa [Y7] at this
end
