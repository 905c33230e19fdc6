/- Crash by no numbers at all, wherever the empty slice points -/
import Derived.Test.YtipejjgodnnkaaaGreatDoorPz9
namespace Go.Proofs.YtipejjgodnnkaaaGreatDoor
open Go Go.RowKit Go.Proofs
set_option maxHeartbeats 2000000
set_option maxRecDepth 100000
section
open Go.ChangeMaps (setBlock)
theorem qjl {w:World}{bp:Nat}{S:Nat→Prop}{D:DM}(L0:Drv w bp S D)(A:Option Addr)(c:Nat)(hcl:∀k,(D.cac k).length≤999999) :
  Calls Tryz.prog 29 #[.pointer (some ⟨bp,0,none⟩),.slice A 0 c] w fun e w'=>e=.returned (.tuple #[])∧Drv w' bp S (D.crash [])∧Turn S w w':=by
 obtain⟨bd,bm,l,clock,v,L⟩:=L0
 have c0:=L.c0
 have hbnd:D.n≤2048:=L.n32.2
 go_enter Tryz.func29,Tryz.ntmps29
 go_wp2
 go_loopw [1,12] (fun a i wr=>∃(k:Nat) (l:List MapEntry) (clock:Nat) (v:Nat→Value),k≤D.n∧i=.int .i64 k∧a=.slice A 0 c∧
  Lay wr bp bd bm l clock v S (q0f D [] k).1∧(q0f D [] k).2=[]∧Turn S w wr) (fun _ i _=>D.n-(intOf i).toNat)
 case atStart=>exact⟨0,l,clock,v,Nat.zero_le _,rfl,rfl,L,rfl,Turn.refl _ _⟩
 case round=>
  clear c0 L
  obtain⟨k,l,clock,v,hkn,rfl,rfl,L,hq,T⟩:=hrel
  by_cases hlt:k<D.n
  ·have hkn':k<(q0f D [] k).1.n:=by rw[q2i];exact hlt
   have e1:(q0f D [] k).1.cac k=D.cac k:=by rw[q29,if_neg (by omega)]
   have e2:q0f D [] (k+1)=crash1 (q0f D [] k).1 k (q0f D [] k).2:=rfl
   have hle:=hcl k
   generalize q0f D [] k=R at *
   obtain⟨D',kq⟩:=R
   simp only at hq L hkn' e1 e2
   subst hq
   rw[←e1] at hle
   clear e1 hcl
   have c1:=L.c1
   have hlk:=L.lookup k
   obtain⟨A0,q0,hv0,_⟩:=q5c (L.row k)
   rw[hv0] at hlk
   unfold crash1 at e2
   by_cases hc:D'.cac k=[]
   ·rw[if_pos hc] at e2
    rw[hc] at hlk
    go_wp2_with fail
    exact⟨⟨k+1,l,clock,v,by omega,by go_num,rfl,by rw[e2];exact L,by rw[e2],T⟩,by simp[intOf];omega⟩
   ·rw[if_neg hc] at e2
    have hne:(((D'.cac k).length:Int)==0)=false:=by
     rw[beq_eq_false_iff_ne];intro h;exact hc (List.eq_nil_of_length_eq_zero (by omega))
    have H1:=fun w=>q7j 0 (D'.cac k).length (by omega) (by omega) w
    have hmd:=qa8 0 (m:=(D'.cac k).length+1) (by omega)
    have H2:=q5f L k hkn' (md 0 ((D'.cac k).length+1)) (by omega)
    go_wp2_with fail
    refine (H1 _).mono ?_
    rintro e w1 ⟨rfl,rfl⟩
    go_wp2_with fail
    refine H2.mono ?_
    rintro e w1 ⟨rfl,L1,T1⟩
    have T1':Turn S wr w1:=T1.mono fun x hx=>by rcases hx with h|h;exact h▸L.inS.2.1;exact h▸L.inS.2.2.1
    go_wp2_with fail
    exact⟨⟨k+1,_,_,_,by omega,by go_num,rfl,by rw[e2];exact L1,by rw[e2];rfl,T.then T1'⟩,by simp[intOf];omega⟩
  ·obtain rfl:k=D.n:=by omega
   have c2:=L.c2
   have f2:=L.fz 2
   have LF:=L.off1 false
   go_wp2_with fail
   refine (qcs LF (-1) (by omega)).mono ?_
   rintro e w2 ⟨rfl,L2,T2⟩
   go_wp2_with fail
   go_end0
   exact⟨rfl,⟨bd,bm,_,_,_,L2⟩,(T.then (q0o _ _ _ |>.mono fun x hx=>hx▸L.inS.1)).then (T2.mono fun x hx=>hx▸L.inS.1)⟩
end
theorem q8w (D:DM)(kp:List Int):∀k z,(q0f D kp k).1.dur z=D.dur z∨(q0f D kp k).1.dur z∈D.cac z
 |0,z=>.inl rfl
 |k+1,z=>by
  have ih:=q8w D kp k z
  unfold q0f crash1
  split
  ·exact ih
  ·rename_i hc
   have hk:(q0f D kp k).1.cac k=D.cac k:=by rw[q29,if_neg (by omega)]
   generalize q0f D kp k=R at *
   unfold DM.settle
   dsimp only
   split
   ·exact ih
   ·by_cases hz:z=k
    ·subst hz
     rw[q0b,hk]
     right
     have h0:0<(D.cac z).length:=List.length_pos_iff.2 (by rw[←hk];exact hc)
     have hlt:=qa8 (R.2.headD 0) (m:=(D.cac z).length+1) (by omega)
     rw[hk] at *
     rw[List.getD_eq_getElem?_getD,List.getElem?_eq_getElem (by omega)]
     exact List.getElem_mem _
    ·rw[q05 _ _ hz];exact ih
inductive Stp where
 |w (s:Nat) (x:List UInt8)
 |fl
def Stp.ok (n:Nat):Stp→Prop
 |.w s x=>s<n∧x.length=256
 |.fl=>True
def DM.does (D:DM):Stp→DM
 |.w s x=>D.writeD s x
 |.fl=>D.flushD
def DM.says (D:DM):Stp→Int
 |.w s x=>D.writeE s x
 |.fl=>D.err
def DM.runE (D:DM):List Stp→Int
 |[]=>0
 |a::l=>if D.says a=0 then (D.does a).runE l else D.says a
def DM.runD (D:DM):List Stp→DM
 |[]=>D
 |a::l=>if D.says a=0 then (D.does a).runD l else D.does a
theorem q16 (a b:List Stp):∀D:DM,D.runE (a++b)=if D.runE a=0 then (D.runD a).runE b else D.runE a:=by
 induction a with
 |nil=>intro D;simp[DM.runE,DM.runD]
 |cons x a ih=>
  intro D
  show (if D.says x=0 then (D.does x).runE (a++b) else D.says x)=_
  by_cases h:D.says x=0
  ·rw[if_pos h,ih]
   simp only[DM.runE,DM.runD,if_pos h]
  ·simp only[DM.runE,if_neg h]
theorem q17 (a b:List Stp):∀D:DM,D.runD (a++b)=if D.runE a=0 then (D.runD a).runD b else D.runD a:=by
 induction a with
 |nil=>intro D;simp[DM.runE,DM.runD]
 |cons x a ih=>
  intro D
  show (if D.says x=0 then (D.does x).runD (a++b) else D.does x)=_
  by_cases h:D.says x=0
  ·rw[if_pos h,ih]
   simp only[DM.runE,DM.runD,if_pos h]
  ·simp only[DM.runE,DM.runD,if_neg h]
structure Mem where
 dur:Nat→List UInt8
 cac:Nat→List (List UInt8)
def DM.mem (D:DM):Mem:=⟨D.dur,D.cac⟩
def Mem.newest (M:Mem)(s:Nat):List UInt8:=(M.cac s).getLastD (M.dur s)
def Mem.go (M:Mem):Stp→Mem
 |.w s x=>⟨M.dur,upd M.cac s (M.cac s++[x])⟩
 |.fl=>⟨M.newest,fun _=>[]⟩
def Mem.gos (M:Mem):List Stp→Mem
 |[]=>M
 |a::l=>(M.go a).gos l
theorem q72 (a b:List Stp):∀M:Mem,M.gos (a++b)=(M.gos a).gos b:=by
 induction a with
 |nil=>intro M;rfl
 |cons x a ih=>intro M;exact ih _
theorem qsg {D:DM}{a:Stp}(ha:a.ok D.n)(h:D.stop=false):D.says a=0∧(D.does a).mem=D.mem.go a∧(D.does a).n=D.n∧(D.does a).cap=D.cap∧(D.does a).off=false∧(D.does a).fused=D.fused∧(D.does a).left=(if D.fused then D.left-1 else D.left)∧(D.does a).steps=D.steps+1:=by
 have hst:D.stepD={ D with off:=false,left:=if D.fused then D.left-1 else D.left,steps:=D.steps+1 }:=by unfold DM.stepD;rw[h];rfl
 cases a with
 |w s x=>
  have hb:D.bad s x=false:=by unfold DM.bad;exact decide_eq_false (by rintro (h1|h1);exact h1 ⟨by omega,by have:=ha.1;omega⟩;exact h1 ha.2)
  refine⟨by show D.writeE s x=0;unfold DM.writeE DM.err;rw[hb,h];rfl,?_⟩
  have:D.does (.w s x)={ D.stepD with cac:=upd D.cac s (D.cac s++[x]) }:=by
   show D.writeD s x=_
   unfold DM.writeD
   rw[hb,h];rfl
  rw[this,hst]
  exact⟨rfl,rfl,rfl,rfl,rfl,rfl,rfl⟩
 |fl=>
  refine⟨by show D.err=0;unfold DM.err;rw[h];rfl,?_⟩
  have:D.does .fl=D.stepD.flush:=by
   show D.flushD=_
   unfold DM.flushD
   rw[h];rfl
  rw[this,hst]
  exact⟨rfl,rfl,rfl,rfl,rfl,rfl,rfl⟩
theorem qlu {D:DM}{a:Stp}(ha:a.ok D.n)(h:D.stop=true):D.says a=4∧(D.does a).mem=D.mem∧(D.does a).n=D.n∧(D.does a).cap=D.cap∧(D.does a).off=true∧(D.does a).fused=D.fused∧(D.does a).left=D.left∧(D.does a).steps=D.steps:=by
 have hst:D.stepD={ D with off:=true,left:=D.left,steps:=D.steps }:=by unfold DM.stepD;rw[h];rfl
 cases a with
 |w s x=>
  have hb:D.bad s x=false:=by unfold DM.bad;exact decide_eq_false (by rintro (h1|h1);exact h1 ⟨by omega,by have:=ha.1;omega⟩;exact h1 ha.2)
  refine⟨by show D.writeE s x=4;unfold DM.writeE DM.err;rw[hb,h];rfl,?_⟩
  have:D.does (.w s x)=D.stepD:=by
   show D.writeD s x=_
   unfold DM.writeD
   rw[hb,h];rfl
  rw[this,hst]
  exact⟨rfl,rfl,rfl,rfl,rfl,rfl,rfl⟩
 |fl=>
  refine⟨by show D.err=4;unfold DM.err;rw[h];rfl,?_⟩
  have:D.does .fl=D.stepD:=by
   show D.flushD=_
   unfold DM.flushD
   rw[h];rfl
  rw[this,hst]
  exact⟨rfl,rfl,rfl,rfl,rfl,rfl,rfl⟩
def DM.room (D:DM)(m:Nat):Nat:=if D.off then 0 else if D.fused then min D.left m else m
theorem qsh (D:DM)(m:Nat):D.room m≤m:=by unfold DM.room;split;omega;split<;>omega
theorem qhh (l:List Stp):∀D:DM,(∀a∈l,a.ok D.n)→
  (D.runD l).mem=D.mem.gos (l.take (D.room l.length))∧(D.runD l).n=D.n∧(D.runD l).cap=D.cap∧(D.runD l).fused=D.fused∧(D.runD l).steps=D.steps+D.room l.length∧(D.runD l).left=(if D.fused then D.left-D.room l.length else D.left)∧
   ((D.room l.length=l.length∧D.runE l=0∧(D.runD l).off=D.off)∨(D.room l.length<l.length∧D.runE l=4∧(D.runD l).off=true)):=by
 induction l with
 |nil=>
  intro D _
  have hr:D.room 0=0:=Nat.le_zero.1 (qsh D 0)
  show D.mem=D.mem.gos (List.take (D.room 0) [])∧_
  rw[show ([]:List Stp).length=0 from rfl,hr]
  exact⟨rfl,rfl,rfl,rfl,rfl,by split<;>rfl,.inl ⟨rfl,rfl,rfl⟩⟩
 |cons a l ih=>
  intro D hall
  have ha:=hall a (List.mem_cons_self ..)
  cases h:D.stop with
  |true=>
   obtain⟨e0,e1,e2,e3,e4,e5,e6,e7⟩:=qlu ha h
   have hr:D.room (a::l).length=0:=by
    unfold DM.stop at h
    unfold DM.room
    cases ho:D.off with
    |true=>rfl
    |false=>
     rw[ho,Bool.false_or,Bool.and_eq_true,decide_eq_true_iff] at h
     rw[h.1,h.2];simp
   have hD:D.runD (a::l)=D.does a:=by show (if D.says a=0 then _ else _)=_;rw[if_neg (by rw[e0];decide)]
   have hE:D.runE (a::l)=4:=by show (if D.says a=0 then _ else _)=_;rw[if_neg (by rw[e0];decide),e0]
   rw[hD,hE,hr]
   exact⟨e1,e2,e3,e5,e7,by rw[e6];split<;>rfl,.inr ⟨by simp,rfl,e4⟩⟩
  |false=>
   obtain⟨e0,e1,e2,e3,e4,e5,e6,e7⟩:=qsg ha h
   have ho:D.off=false:=by unfold DM.stop at h;cases ho:D.off with|true=>rw[ho] at h;simp at h|false=>rfl
   have hl:D.fused=true→0<D.left:=fun hf=>by
    unfold DM.stop at h
    rw[ho,hf] at h
    simp at h
    omega
   have hD:D.runD (a::l)=(D.does a).runD l:=by show (if D.says a=0 then _ else _)=_;rw[if_pos e0]
   have hE:D.runE (a::l)=(D.does a).runE l:=by show (if D.says a=0 then _ else _)=_;rw[if_pos e0]
   have hr:D.room (a::l).length=(D.does a).room l.length+1:=by
    unfold DM.room
    rw[ho,e4,e5,e6]
    cases hf:D.fused with
    |true=>have:=hl hf;simp;omega
    |false=>simp
   obtain⟨i1,i2,i3,i4,i5,i6,i7⟩:=ih (D.does a) (fun b hb=>by rw[e2];exact hall b (List.mem_cons_of_mem _ hb))
   rw[hD,hE,hr]
   refine⟨by rw[i1,e1];rfl,i2.trans e2,i3.trans e3,i4.trans e5,by rw[i5,e7];omega,?_,?_⟩
   ·rw[i6,e5,e6]
    cases hf:D.fused with
    |true=>simp;omega
    |false=>simp
   ·rw[ho]
    rcases i7 with⟨j1,j2,j3⟩|⟨j1,j2,j3⟩
    ·exact .inl ⟨by simp[j1],j2,j3.trans e4⟩
    ·exact .inr ⟨by simp;exact j1,j2,j3⟩
def lastW (s:Nat):List Stp→List UInt8→List UInt8
 |[],d=>d
 |.w t x::l,d=>lastW s l (if t=s then x else d)
 |.fl::l,d=>lastW s l d
theorem qdw (M:Mem)(a:Stp)(s:Nat):(M.go a).newest s=(match a with|.w t x=>if t=s then x else M.newest s|.fl=>M.newest s):=by
 cases a with
 |w t x=>
  show (upd M.cac t (M.cac t++[x]) s).getLastD (M.dur s)=if t=s then x else _
  by_cases h:t=s
  ·subst h
   rw[q0b,if_pos rfl]
   simp[List.getLastD_eq_getLast?]
  ·rw[q05 _ _ (fun e=>h e.symm),if_neg h];rfl
 |fl=>rfl
theorem q55 (s:Nat):∀(l:List Stp) (M:Mem),(M.gos l).newest s=lastW s l (M.newest s)
 |[],M=>rfl
 |.w t x::l,M=>by
  show ((M.go (.w t x)).gos l).newest s=lastW s l (if t=s then x else M.newest s)
  rw[q55 s l,qdw]
 |.fl::l,M=>by
  show ((M.go .fl).gos l).newest s=lastW s l (M.newest s)
  rw[q55 s l,qdw]
theorem q0p (s:Nat):∀(a b:List Stp) (d:List UInt8),lastW s (a++b) d=lastW s b (lastW s a d)
 |[],_,_=>rfl
 |.w _ _::a,b,_=>q0p s a b _
 |.fl::a,b,_=>q0p s a b _
def spares (s:Nat)(l:List Stp):Prop:=∀t x,Stp.w t x∈l→t≠s
theorem q1c {s:Nat}:∀{l:List Stp} (_:spares s l) (d:List UInt8),lastW s l d=d
 |[],_,_=>rfl
 |.w t x::l,h,d=>by
  show lastW s l (if t=s then x else d)=d
  rw[if_neg (h t x (List.mem_cons_self ..))]
  exact q1c (fun t x hx=>h t x (List.mem_cons_of_mem _ hx)) d
 |.fl::l,h,d=>q1c (l:=l) (fun t x hx=>h t x (List.mem_cons_of_mem _ hx)) d
theorem qa6 {M:Mem}{s:Nat}(h:M.cac s=[]):M.newest s=M.dur s:=by unfold Mem.newest;rw[h];rfl
def cmtL (A:List Stp)(slot:Nat)(sb:List UInt8):List Stp:=A++.fl::[.w slot sb,.fl]
theorem qsi (A:List Stp)(slot:Nat)(sb:List UInt8):(cmtL A slot sb).length=A.length+3:=by unfold cmtL;simp
theorem qpc (A:List Stp)(slot:Nat)(sb:List UInt8)(M:Mem)(s:Nat):(M.gos (cmtL A slot sb)).cac s=[]∧(M.gos (cmtL A slot sb)).dur s=if s=slot then sb else lastW s A (M.newest s):=by
 have e:cmtL A slot sb=(A++[.fl,.w slot sb])++[.fl]:=by unfold cmtL;simp
 rw[e,q72]
 refine⟨rfl,?_⟩
 show ((M.gos (A++[.fl,.w slot sb])).newest s)=_
 rw[q55,q0p]
 show (if slot=s then sb else lastW s A (M.newest s))=_
 by_cases h:s=slot
 ·rw[if_pos h.symm,if_pos h]
 ·rw[if_neg (fun e=>h e.symm),if_neg h]
def wAt (at_:Nat)(l:List (List UInt8)):List Stp:=(List.range l.length).map fun i=>.w (at_+i) (l.getD i [])
theorem q4n (at_:Nat)(l:List (List UInt8)):(wAt at_ l).length=l.length:=by unfold wAt;simp
theorem qc6 {at_:Nat}{l:List (List UInt8)}{s:Nat}{x:List UInt8}(h:Stp.w s x∈wAt at_ l):∃i,i<l.length∧s=at_+i∧x=l.getD i []:=by
 unfold wAt at h
 rw[List.mem_map] at h
 obtain⟨i,hi,e⟩:=h
 injection e with e1 e2
 exact⟨i,List.mem_range.1 hi,e1.symm,e2.symm⟩
theorem q73 {at_:Nat}{l:List (List UInt8)}{s:Nat}(h:s<at_∨at_+l.length≤s):spares s (wAt at_ l):=fun t x hx=>by
 obtain⟨i,hi,e,_⟩:=qc6 hx
 omega
theorem qdx (g:Nat→List UInt8)(at_:Nat):∀(k i:Nat) (d:List UInt8),lastW (at_+i) ((List.range k).map fun i=>Stp.w (at_+i) (g i)) d=if i<k then g i else d
 |0,i,d=>rfl
 |k+1,i,d=>by
  rw[List.range_succ,List.map_append,q0p,qdx g at_ k i d]
  show (if at_+k=at_+i then g k else _)=_
  by_cases h:i=k
  ·subst h
   rw[if_pos rfl,if_pos (by omega)]
  ·rw[if_neg (by omega)]
   by_cases h2:i<k
   ·rw[if_pos h2,if_pos (by omega)]
   ·rw[if_neg h2,if_neg (by omega)]
theorem qdy (at_:Nat)(l:List (List UInt8))(i:Nat)(d:List UInt8)(h:i<l.length):lastW (at_+i) (wAt at_ l) d=l.getD i []:=by
 unfold wAt
 rw[qdx,if_pos h]
theorem qhi (at_:Nat)(ls:List (List UInt8)){j:Nat}(hj:j<ls.length):(wAt at_ ls).take (j+1)=(wAt at_ ls).take j++[.w (at_+j) (ls.getD j [])]:=by
 have hl:j<(wAt at_ ls).length:=by rw[q4n];exact hj
 rw[List.take_add_one,List.getElem?_eq_getElem hl]
 have:(wAt at_ ls)[j]=.w (at_+j) (ls.getD j []):=by simp[wAt]
 rw[this]
 rfl
def wIn (l:List (Nat × List UInt8)):List Stp:=l.map fun b=>.w b.1 b.2
theorem qaj {l:List (Nat × List UInt8)}{s:Nat}(h:∀b∈l,b.1≠s):spares s (wIn l):=fun t x hx=>by
 unfold wIn at hx
 rw[List.mem_map] at hx
 obtain⟨b,hb,e⟩:=hx
 injection e with e1 e2
 exact e1▸h b hb
theorem qdz (s:Nat)(x:List UInt8):∀(l:List (Nat × List UInt8)) (d:List UInt8),(s,x)∈l→(∀y,(s,y)∈l→y=x)→lastW s (wIn l) d=x
 |[],_,h,_=>by cases h
 |b::l,d,h,hu=>by
  show lastW s (wIn l) (if b.1=s then b.2 else d)=x
  by_cases hm:(s,x)∈l
  ·exact qdz s x l _ hm fun y hy=>hu y (List.mem_cons_of_mem _ hy)
  ·have hb:b=(s,x):=by
    rcases List.mem_cons.1 h with e|e
    ·exact e.symm
    ·exact absurd e hm
   have hsp:spares s (wIn l):=qaj fun c hc e=>by
    obtain⟨c1,c2⟩:=c
    dsimp only at e
    subst e
    have:=hu c2 (List.mem_cons_of_mem _ hc)
    subst this
    exact hm hc
   rw[q1c hsp,hb,if_pos rfl]
structure Kp (B:Nat)(X:Nat→Prop)(w w':World):Prop where
 os:w'.os=w.os
 tape:w'.tape=w.tape
 output:w'.output=w.output
 size:w.heap.size≤w'.heap.size
 block:∀k,k<w.heap.size→(k<B∨X k)→w'.heap[k]?=w.heap[k]?
section
variable {B:Nat}{X X':Nat→Prop}{w w' w'':World}
theorem Kp.refl (B:Nat)(X:Nat→Prop)(w:World):Kp B X w w:=⟨rfl,rfl,rfl,Nat.le_refl _,fun _ _ _=>rfl⟩
theorem Kp.trans (h:Kp B X w w')(k:Kp B X w' w''):Kp B X w w'':=
 ⟨k.os.trans h.os,k.tape.trans h.tape,k.output.trans h.output,Nat.le_trans h.size k.size,fun i hi hx=>(k.block i (Nat.lt_of_lt_of_le hi h.size) hx).trans (h.block i hi hx)⟩
theorem Kp.mono (h:Kp B X w w')(hs:∀x,x<w.heap.size→X' x→X x):Kp B X' w w':=⟨h.os,h.tape,h.output,h.size,fun k hk hx=>h.block k hk (hx.imp id (hs k hk))⟩
theorem Kp.cell {p:Addr}(h:Kp B X w w')(hp:p.block<w.heap.size)(hx:p.block<B∨X p.block):w'.cell? p=w.cell? p:=World.cell?_of_block (w:=w) (h.block p.block hp hx)
end
section
variable {B:Nat}{X X':Nat→Prop}{w w':World}{A:Option Addr}{n:Nat}{l:List UInt8}
end
section
variable {B:Nat}{X:Nat→Prop}{w w':World}{bp:Nat}{D D':DM}
theorem Drv.keep {S:Nat→Prop}(h:Drv w bp S D)(hk:∀k,k<w.heap.size→S k→w'.heap[k]?=w.heap[k]?):Drv w' bp S D:=by
 obtain⟨bd,bm,l,c,v,L⟩:=h
 exact⟨bd,bm,l,c,v,L.keep hk⟩
theorem Drv.mono {S S':Nat→Prop}(h:Drv w bp S D)(hk:∀k,k<w.heap.size→S k→S' k):Drv w bp S' D:=by
 obtain⟨bd,bm,l,c,v,L⟩:=h
 exact⟨bd,bm,l,c,v,L.mono hk⟩
def DM.ok (D:DM)(m:Nat):Prop:=D.steps≤m∧∀k,(D.cac k).length≤m
theorem DM.ok.mono {D:DM}{m m':Nat}(h:D.ok m)(hm:m≤m'):D.ok m':=⟨by have:=h.1;omega,fun k=>by have:=h.2 k;omega⟩
theorem qc7 {D:DM}{m:Nat}(h:D.ok m):D.stepD.ok (m+1):=⟨by have:=h.1;unfold DM.stepD;dsimp only;split<;>omega,fun k=>by have:=h.2 k;show (D.cac k).length≤_;omega⟩
theorem qpd {D:DM}{m:Nat}(h:D.ok m)(s:Int)(x:List UInt8):(D.writeD s x).ok (m+1):=by
 unfold DM.writeD
 split
 ·exact h.mono (by omega)
 split
 ·exact qc7 h
 ·refine⟨(qc7 h).1,fun k=>?_⟩
  show (upd D.cac s.toNat (D.cac s.toNat++[x]) k).length≤m+1
  by_cases hk:k=s.toNat
  ·subst hk;rw[q0b,List.length_append];have:=h.2 s.toNat;simp;omega
  ·rw[q05 _ _ hk];have:=h.2 k;omega
theorem qpe {D:DM}{m:Nat}(h:D.ok m):(D.flushD).ok (m+1):=by
 unfold DM.flushD
 split
 ·exact qc7 h
 ·exact⟨(qc7 h).1,fun k=>by simp[DM.flush]⟩
end
def DM.all (D:DM)(s:Nat):List (List UInt8):=D.dur s::D.cac s
def RIRow (w:World)(v:Value)(vs:List Value):Prop:=∃g o c,v=.slice (some ⟨g,o,none⟩) vs.length c∧vs.length≤c∧c≤maxLen∧w.rangeAt g o vs∧w.there g o c
def BRow (w:World)(v:Value)(l:List UInt8):Prop:=∃g o c,v=.slice (some ⟨g,o,none⟩) 256 c∧256≤c∧c≤maxLen∧l.length=256∧w.rangeAt g o (bvs l)∧w.there g o 256
section
variable {w w':World}{v:Value}{vs:List Value}{l:List UInt8}
theorem RIRow.keep (h:RIRow w v vs)(hk:∀g,v.ownBlock=some g→w'.heap[g]?=w.heap[g]?):RIRow w' v vs:=by
 obtain⟨g,o,c,rfl,h1,h2,h3,h4⟩:=h
 exact⟨g,o,c,rfl,h1,h2,q27 h3 (hk g rfl),q3i h4 (hk g rfl)⟩
theorem BRow.keep (h:BRow w v l)(hk:∀g,v.ownBlock=some g→w'.heap[g]?=w.heap[g]?):BRow w' v l:=by
 obtain⟨g,o,c,rfl,h1,h2,h3,h4,h5⟩:=h
 exact⟨g,o,c,rfl,h1,h2,h3,q27 h4 (hk g rfl),q3i h5 (hk g rfl)⟩
theorem BRow.lt (h:BRow w v l){g:Nat}(hg:v.ownBlock=some g):g<w.heap.size:=by
 obtain⟨g',o,c,rfl,_,_,_,_,h5⟩:=h
 cases hg
 obtain⟨u,hu⟩:=Option.isSome_iff_exists.1 (h5 0 (by omega)).1
 exact World.block_lt_of_cell? w _ hu
theorem RIRow.lt (h:RIRow w v vs)(hv:0<vs.length){g:Nat}(hg:v.ownBlock=some g):g<w.heap.size:=by
 obtain⟨g',o,c,rfl,h1,_,_,h4⟩:=h
 cases hg
 obtain⟨u,hu⟩:=Option.isSome_iff_exists.1 (h4 0 (by omega)).1
 exact World.block_lt_of_cell? w _ hu
theorem BRow.sl (h:BRow w v l):∃A c,v=.slice A 256 c∧Sl w A 256 c l:=by
 obtain⟨g,o,c,rfl,h1,h2,h3,h4,h5⟩:=h
 have hg:=BRow.lt (w:=w) (v:=.slice (some ⟨g,o,none⟩) 256 c) (l:=l) ⟨g,o,c,rfl,h1,h2,h3,h4,h5⟩ rfl
 have:=qcp h4 hg (by omega) h2
 rw[h3] at this
 exact⟨_,c,rfl,this⟩
end
structure RLay (w:World)(rp ro oc:Nat)(iv:Nat→Value)(vs:Nat→List Value)(S:Nat→Prop)(D:DM):Prop where
 me:w.heap[rp]?=some (.cells #[.slice (some ⟨ro,0,none⟩) D.n oc,.bool D.off,.bool D.fused,.int .i64 D.left,.int .i64 D.steps] 52 (0,0))
 out:∀s,s<D.n→w.cell? ⟨ro,s,none⟩=some (iv s)∧w.frozen? ⟨ro,s,none⟩=false
 irow:∀s,s<D.n→RIRow w (iv s) (vs s)
 len:∀s,s<D.n→(vs s).length=(D.all s).length
 brow:∀s,s<D.n→∀(i:Nat) (v:Value) (l:List UInt8),(vs s)[i]?=some v→(D.all s)[i]?=some l→BRow w v l
 off:∀s,D.n≤s→D.cac s=[]
 inS:S rp∧S ro∧(∀s,s<D.n→∀g,(iv s).ownBlock=some g→S g)∧∀s,s<D.n→∀v∈vs s,∀g,v.ownBlock=some g→S g
 ne:rp≠ro∧(∀s,s<D.n→∀g,(iv s).ownBlock=some g→g≠rp∧g≠ro)∧∀s,s<D.n→∀v∈vs s,∀g,v.ownBlock=some g→g≠rp∧g≠ro∧∀z,z<D.n→(iv z).ownBlock≠some g
 isep:∀s s' g,s<D.n→s'<D.n→(iv s).ownBlock=some g→(iv s').ownBlock=some g→s=s'
 bsep:∀s s' (i i':Nat) (v v':Value) (g:Nat),s<D.n→s'<D.n→(vs s)[i]?=some v→(vs s')[i']?=some v'→v.ownBlock=some g→v'.ownBlock=some g→s=s'∧i=i'
 n32:sectors D.n
 left:D.left≤9223372036854775807
def RDrv (w:World)(rp:Nat)(S:Nat→Prop)(D:DM):Prop:=∃ro oc iv vs,RLay w rp ro oc iv vs S D
section
variable {w w':World}{rp ro oc:Nat}{iv:Nat→Value}{vs:Nat→List Value}{S:Nat→Prop}{D:DM}
theorem RLay.pos (L:RLay w rp ro oc iv vs S D):0<D.n:=by have:=L.n32;unfold sectors at this;omega
theorem RLay.rolt (L:RLay w rp ro oc iv vs S D):ro<w.heap.size:=World.block_lt_of_cell? w _ (L.out 0 L.pos).1
theorem RLay.vpos (L:RLay w rp ro oc iv vs S D){s:Nat}(hs:s<D.n):0<(vs s).length:=by rw[L.len s hs];simp[DM.all]
theorem RLay.ilt (L:RLay w rp ro oc iv vs S D){s g:Nat}(hs:s<D.n)(hg:(iv s).ownBlock=some g):g<w.heap.size:=(L.irow s hs).lt (L.vpos hs) hg
theorem RLay.b_at (L:RLay w rp ro oc iv vs S D){s:Nat}(hs:s<D.n){v:Value}(hv:v∈vs s):∃(i:Nat) (l:List UInt8),(vs s)[i]?=some v∧(D.all s)[i]?=some l∧BRow w v l:=by
 obtain⟨i,hi,rfl⟩:=List.getElem_of_mem hv
 have hl:i<(D.all s).length:=by rw[←L.len s hs];exact hi
 exact⟨i,(D.all s)[i],List.getElem?_eq_getElem hi,List.getElem?_eq_getElem hl,L.brow s hs i _ _ (List.getElem?_eq_getElem hi) (List.getElem?_eq_getElem hl)⟩
theorem RLay.blt (L:RLay w rp ro oc iv vs S D){s g:Nat}(hs:s<D.n){v:Value}(hv:v∈vs s)(hg:v.ownBlock=some g):g<w.heap.size:=by
 obtain⟨i,l,_,_,h⟩:=L.b_at hs hv
 exact h.lt hg
theorem RLay.keep (L:RLay w rp ro oc iv vs S D)(hk:∀k,k<w.heap.size→S k→w'.heap[k]?=w.heap[k]?):RLay w' rp ro oc iv vs S D:=by
 have e1:=hk rp (q01 L.me) L.inS.1
 have e2:=hk ro L.rolt L.inS.2.1
 exact⟨e1.trans L.me,fun s hs=>⟨(World.cell?_of_block (w:=w) (w':=w') (a:=⟨ro,s,none⟩) e2).trans (L.out s hs).1,(World.frozen?_of_block (w:=w) (w':=w') (a:=⟨ro,s,none⟩) e2).trans (L.out s hs).2⟩,
  fun s hs=>(L.irow s hs).keep fun g hg=>hk g (L.ilt hs hg) (L.inS.2.2.1 s hs g hg),L.len,
  fun s hs i v l hv hl=>(L.brow s hs i v l hv hl).keep fun g hg=>hk g ((L.brow s hs i v l hv hl).lt hg) (L.inS.2.2.2 s hs v (List.mem_of_getElem? hv) g hg),L.off,L.inS,L.ne,L.isep,L.bsep,L.n32,L.left⟩
theorem RLay.mono {S':Nat→Prop}(L:RLay w rp ro oc iv vs S D)(h:∀k,k<w.heap.size→S k→S' k):RLay w rp ro oc iv vs S' D:=
 ⟨L.me,L.out,L.irow,L.len,L.brow,L.off,⟨h _ (q01 L.me) L.inS.1,h _ L.rolt L.inS.2.1,fun s hs g hg=>h g (L.ilt hs hg) (L.inS.2.2.1 s hs g hg),fun s hs v hv g hg=>h g (L.blt hs hv hg) (L.inS.2.2.2 s hs v hv g hg)⟩,L.ne,L.isep,L.bsep,L.n32,L.left⟩
theorem RLay.struct (L:RLay w rp ro oc iv vs S D)(off fused:Bool)(left steps:Nat)(hl:left≤9223372036854775807)
  (h1:w'.heap[rp]?=some (.cells #[.slice (some ⟨ro,0,none⟩) D.n oc,.bool off,.bool fused,.int .i64 left,.int .i64 steps] 52 (0,0)))
  (h2:∀k,k<w.heap.size→k≠rp→w'.heap[k]?=w.heap[k]?):RLay w' rp ro oc iv vs S { D with off:=off,fused:=fused,left:=left,steps:=steps }:=by
 have e2:=h2 ro L.rolt (fun e=>L.ne.1 e.symm)
 exact⟨h1,fun s hs=>⟨(World.cell?_of_block (w:=w) (w':=w') (a:=⟨ro,s,none⟩) e2).trans (L.out s hs).1,(World.frozen?_of_block (w:=w) (w':=w') (a:=⟨ro,s,none⟩) e2).trans (L.out s hs).2⟩,
  fun s hs=>(L.irow s hs).keep fun g hg=>h2 g (L.ilt hs hg) (L.ne.2.1 s hs g hg).1,L.len,
  fun s hs i v l hv hl=>(L.brow s hs i v l hv hl).keep fun g hg=>h2 g ((L.brow s hs i v l hv hl).lt hg) (L.ne.2.2 s hs v (List.mem_of_getElem? hv) g hg).1,L.off,L.inS,L.ne,L.isep,L.bsep,L.n32,hl⟩
theorem RLay.setRow (L:RLay w rp ro oc iv vs S D)(s:Nat)(hs:s<D.n){S':Nat→Prop}(iv1:Value)(vs1:List Value)(d1:List UInt8)(c1:List (List UInt8))
  (hS:∀k,k<w.heap.size→S k→S' k)
  (h1:∀k,k<w.heap.size→k≠ro→(iv s).ownBlock≠some k→w'.heap[k]?=w.heap[k]?)
  (ho:∀z,z<D.n→w'.cell? ⟨ro,z,none⟩=some (upd iv s iv1 z)∧w'.frozen? ⟨ro,z,none⟩=false)
  (hi:RIRow w' iv1 vs1) (hlen:vs1.length=c1.length+1) (hb:∀(i:Nat) (v:Value) (l:List UInt8),vs1[i]?=some v→(d1::c1)[i]?=some l→BRow w' v l)
  (hat:(iv1.ownBlock=(iv s).ownBlock)∨∃g,iv1.ownBlock=some g∧w.heap.size≤g∧S' g)
  (hbat:∀v∈vs1,∀g,v.ownBlock=some g→v∈vs s∨(w.heap.size≤g∧S' g∧iv1.ownBlock≠some g))
  (hinj:∀(i i':Nat) (v v':Value) (g:Nat),vs1[i]?=some v→vs1[i']?=some v'→v.ownBlock=some g→v'.ownBlock=some g→i=i') :
  RLay w' rp ro oc (upd iv s iv1) (upd vs s vs1) S' { D with dur:=upd D.dur s d1,cac:=upd D.cac s c1 }:=by
 have e1:=h1 rp (q01 L.me) L.ne.1 (fun e=>(L.ne.2.1 s hs rp e).1 rfl)
 have hall:∀z,({ D with dur:=upd D.dur s d1,cac:=upd D.cac s c1 }:DM).all z=if z=s then d1::c1 else D.all z:=fun z=>by
  unfold DM.all
  by_cases h:z=s
  ·subst h;simp[upd]
  ·simp[upd,h]
 have hiv:∀z,z<D.n→∀g,(upd iv s iv1 z).ownBlock=some g→(z≠s∧(iv z).ownBlock=some g)∨(z=s∧((iv s).ownBlock=some g∨(w.heap.size≤g∧S' g))):=fun z hz g hg=>by
  by_cases h:z=s
  ·subst h
   rw[q0b] at hg
   rcases hat with e|⟨g',e,e2,e3⟩
   ·exact .inr ⟨rfl,.inl (e▸hg)⟩
   ·rw[e] at hg;cases hg;exact .inr ⟨rfl,.inr ⟨e2,e3⟩⟩
  ·rw[q05 _ _ h] at hg;exact .inl ⟨h,hg⟩
 have hbv:∀z,z<D.n→∀v∈upd vs s vs1 z,∀g,v.ownBlock=some g→v∈vs z∨(z=s∧w.heap.size≤g∧S' g∧iv1.ownBlock≠some g):=fun z hz v hv g hg=>by
  by_cases h:z=s
  ·subst h
   rw[q0b] at hv
   rcases hbat v hv g hg with e|e
   ·exact .inl e
   ·exact .inr ⟨rfl,e⟩
  ·rw[q05 _ _ h] at hv;exact .inl hv
 have hrlt:=L.rolt
 have hplt:=q01 L.me
 refine⟨e1.trans L.me,ho,fun z hz=>?_,fun z hz=>?_,fun z hz i v l hv hl=>?_,fun z hz=>?_,⟨hS _ hplt L.inS.1,hS _ hrlt L.inS.2.1,fun z hz g hg=>?_,fun z hz v hv g hg=>?_⟩,
  ⟨L.ne.1,fun z hz g hg=>?_,fun z hz v hv g hg=>?_⟩,fun z z' g hz hz' hg hg'=>?_,fun z z' i i' v v' g hz hz' hv hv' hg hg'=>?_,L.n32,L.left⟩
 ·by_cases h:z=s
  ·subst h;rw[q0b,q0b];exact hi
  ·rw[q05 _ _ h,q05 _ _ h]
   exact (L.irow z hz).keep fun g hg=>h1 g (L.ilt hz hg) (L.ne.2.1 z hz g hg).2 fun e=>h (L.isep z s g hz hs hg e)
 ·rw[hall]
  by_cases h:z=s
  ·subst h;rw[q0b,if_pos rfl,hlen];simp
  ·rw[q05 _ _ h,if_neg h];exact L.len z hz
 ·rw[hall] at hl
  by_cases h:z=s
  ·subst h;rw[q0b] at hv;rw[if_pos rfl] at hl;exact hb i v l hv hl
  ·rw[q05 _ _ h] at hv;rw[if_neg h] at hl
   have hm:=List.mem_of_getElem? hv
   exact (L.brow z hz i v l hv hl).keep fun g hg=>h1 g (L.blt hz hm hg) (L.ne.2.2 z hz v hm g hg).2.1 ((L.ne.2.2 z hz v hm g hg).2.2 s hs)
 ·show upd D.cac s c1 z=[]
  have:D.n≤z:=hz
  rw[q05 _ _ (by omega)];exact L.off z hz
 ·rcases hiv z hz g hg with⟨_,h⟩|⟨_,h|h⟩
  ·exact hS g (L.ilt hz h) (L.inS.2.2.1 z hz g h)
  ·exact hS g (L.ilt hs h) (L.inS.2.2.1 s hs g h)
  ·exact h.2
 ·rcases hbv z hz v hv g hg with h|⟨_,_,h,_⟩
  ·exact hS g (L.blt hz h hg) (L.inS.2.2.2 z hz v h g hg)
  ·exact h
 ·rcases hiv z hz g hg with⟨_,h⟩|⟨_,h|h⟩
  ·exact L.ne.2.1 z hz g h
  ·exact L.ne.2.1 s hs g h
  ·omega
 ·rcases hbv z hz v hv g hg with h|⟨rfl,h,_,h3⟩
  ·have hlt:=L.blt hz h hg
   obtain⟨a,b,c⟩:=L.ne.2.2 z hz v h g hg
   refine⟨a,b,fun y hy e=>?_⟩
   rcases hiv y hy g e with⟨_,e2⟩|⟨_,e2|e2⟩
   ·exact c y hy e2
   ·exact c s hs e2
   ·omega
  ·refine⟨by omega,by omega,fun y hy e=>?_⟩
   rcases hiv y hy g e with⟨_,e2⟩|⟨hy2,_⟩
   ·have:=L.ilt hy e2;omega
   ·rw[hy2,q0b] at e;exact h3 e
 ·rcases hiv z hz g hg with⟨a,b⟩|⟨a,b⟩<;>rcases hiv z' hz' g hg' with⟨c,d⟩|⟨c,d⟩
  ·exact L.isep z z' g hz hz' b d
  ·rcases d with d|d
   ·rw[c];exact L.isep z s g hz hs b d
   ·have:=L.ilt hz b;omega
  ·rcases b with b|b
   ·rw[a];exact L.isep s z' g hs hz' b d
   ·have:=L.ilt hz' d;omega
  ·rw[a,c]
 ·have m1:=List.mem_of_getElem? hv
  have m2:=List.mem_of_getElem? hv'
  by_cases h:z=s
  ·by_cases h':z'=s
   ·subst h;subst h'
    rw[q0b] at hv hv'
    exact⟨rfl,hinj i i' v v' g hv hv' hg hg'⟩
   ·exfalso
    rw[q05 _ _ h'] at hv' m2
    have hlt:=L.blt hz' m2 hg'
    rcases hbv z hz v m1 g hg with e|⟨_,e,_⟩
    ·obtain⟨j,hj,ej⟩:=List.getElem_of_mem e
     exact h' ((L.bsep z z' j i' v v' g hz hz' (by rw[←ej];exact List.getElem?_eq_getElem hj) hv' hg hg').1.symm.trans h)
    ·omega
  ·by_cases h':z'=s
   ·exfalso
    rw[q05 _ _ h] at hv m1
    have hlt:=L.blt hz m1 hg
    rcases hbv z' hz' v' m2 g hg' with e|⟨_,e,_⟩
    ·obtain⟨j,hj,ej⟩:=List.getElem_of_mem e
     exact h ((L.bsep z z' i j v v' g hz hz' hv (by rw[←ej];exact List.getElem?_eq_getElem hj) hg hg').1.trans h')
    ·omega
   ·rw[q05 _ _ h] at hv;rw[q05 _ _ h'] at hv'
    exact L.bsep z z' i i' v v' g hz hz' hv hv' hg hg'
end
section
open Go.ChangeShapes Go.WideShapes Go.ChangeAt
def i64 (z:Int):Prop:=-9223372036854775808≤z∧z≤9223372036854775807
section
variable {H:Type}{enc:TypeId × Value→H}{P:Program}{W:World}
theorem qpf {e:TypeId}(he:P.underlying e=some (.int .i64)){sp:Nat→Bool}{m:Nat}{c:Value}{y:DataW H × List MemPlace}(h:DataW.trod enc P W 0 sp true m e [c]=some y):∃z,c=.int .i64 z∧i64 z:=by
 obtain⟨z,hcs,_,hw⟩:=DataW.trod_int he h
 exact⟨z,by simpa using hcs,bounds_i64 hw⟩
end
section
variable {w w':World}{A:Option Addr}{n c:Nat}{ps:List (Int × Int)}
end
end
end Go.Proofs.YtipejjgodnnkaaaGreatDoor
