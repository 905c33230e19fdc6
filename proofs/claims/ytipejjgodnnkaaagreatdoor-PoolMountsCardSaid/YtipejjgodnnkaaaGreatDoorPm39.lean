/- Laws of the pool: a pool and the document's, on their disks, apart from each other -/
import Derived.Test.YtipejjgodnnkaaaGreatDoorPm38
namespace Go.Proofs.YtipejjgodnnkaaaGreatDoor
open Go Go.RowKit Go.Proofs
set_option maxHeartbeats 8000000
set_option maxRecDepth 100000
section
variable {b:Nat}{w w':World}{d p:Nat}{S0 S T S':Nat→Prop}{D:DM}{P P':Pl}
theorem SysAt.ownGrow (H:SysAt b w d p S0 S T D P)(t:Turn S' w w')(hT:∀k,S' k→T k)(h0:∀k,S' k→¬S0 k)(h1:∀k,S' k→¬S k):SysAt b w' d p S0 S (grow T w w') D P:=by
 have hz:=t.size
 have hbb:=H.base
 have hST:=H.subS
 have Q:=(H.pool.mono (S':=S) (T':=grow T w w') (fun k _ h=>h) (fun k hk h=>h.1.elim id fun h2=>by omega) (fun k h=>⟨.inl (hST k h),by have:=(H.tight k (hST k h)).2;omega⟩)).other t (fun k hk=>⟨.inl (hT k hk),by have:=(H.tight k (hT k hk)).2;omega⟩) h1
 exact⟨H.drv.keep fun k hk hs=>t.block k hk fun h=>h0 k h hs,Q,fun k hk=>⟨.inl (H.sub k hk),by have:=(H.tight k (H.sub k hk)).2;omega⟩,H.apart,fun k hk=>⟨hk.1.elim (fun h=>(H.tight k h).1) fun h=>by omega,hk.2⟩⟩
theorem SysAt.turned (H:SysAt b w d p S0 S T D P)(R:Pool w' p d S T P')(X:Turn S w w'):SysAt b w' d p S0 S T D P':=
 ⟨H.drv.keep fun k hk hs=>X.block k hk (H.apart k hs),R,H.sub,H.apart,fun k hk=>⟨(H.tight k hk).1,by have:=(H.tight k hk).2;have:=X.size;omega⟩⟩
end
structure RSys (b:Nat)(w:World)(xb d y p q:Nat)(S1 S2 T:Nat→Prop)(D:DM)(P:Pl):Prop where
 me:w.heap[xb]?=some (.cells #[.pointer (some ⟨d,0,none⟩),.pointer (some ⟨y,0,none⟩),.pointer (some ⟨p,0,none⟩),.pointer (some ⟨q,0,none⟩)] 43 (0,0))
 drv:RDrv w y S1 D
 pool:RPool w q y S2 T P
 sub1:∀k,S1 k→T k
 sub2:∀k,S2 k→T k
 apart:∀k,S1 k→¬S2 k
 tight:∀k,T k→b≤k∧k<w.heap.size
 xT:T xb
 x1:¬S1 xb
 x2:¬S2 xb
section
variable {b:Nat}{w w':World}{xb d y p q:Nat}{S1 S2 T S':Nat→Prop}{D D':DM}{P P':Pl}
theorem RSys.c0 (H:RSys b w xb d y p q S1 S2 T D P):w.cell? ⟨xb,0,none⟩=some (.pointer (some ⟨d,0,none⟩)):=by rw[cell_of_row _ _ _ _ _ _ H.me];rfl
theorem RSys.c1 (H:RSys b w xb d y p q S1 S2 T D P):w.cell? ⟨xb,1,none⟩=some (.pointer (some ⟨y,0,none⟩)):=by rw[cell_of_row _ _ _ _ _ _ H.me];rfl
theorem RSys.c2 (H:RSys b w xb d y p q S1 S2 T D P):w.cell? ⟨xb,2,none⟩=some (.pointer (some ⟨p,0,none⟩)):=by rw[cell_of_row _ _ _ _ _ _ H.me];rfl
theorem RSys.c3 (H:RSys b w xb d y p q S1 S2 T D P):w.cell? ⟨xb,3,none⟩=some (.pointer (some ⟨q,0,none⟩)):=by rw[cell_of_row _ _ _ _ _ _ H.me];rfl
theorem RSys.fz (H:RSys b w xb d y p q S1 S2 T D P)(j:Nat):w.frozen? ⟨xb,j,none⟩=false:=by unfold World.frozen?;rw[H.me];simp
theorem RSys.xlt (H:RSys b w xb d y p q S1 S2 T D P):xb<w.heap.size:=q01 H.me
theorem RSys.other (H:RSys b w xb d y p q S1 S2 T D P)(t:Turn S' w w')(hT:∀k,S' k→T k)(h1:∀k,S' k→¬S1 k)(h2:∀k,S' k→¬S2 k)(hx:¬S' xb):RSys b w' xb d y p q S1 S2 T D P:=
 ⟨(t.block xb H.xlt hx).trans H.me,H.drv.keep fun k hk hs=>t.block k hk fun h=>h1 k h hs,H.pool.other t hT h2,H.sub1,H.sub2,H.apart,fun k hk=>⟨(H.tight k hk).1,by have:=(H.tight k hk).2;have:=t.size;omega⟩,H.xT,H.x1,H.x2⟩
theorem RSys.below (H:RSys b w xb d y p q S1 S2 T D P)(hb:Below w.heap.size w w'):RSys b w' xb d y p q S1 S2 T D P:=
 ⟨(hb.block xb H.xlt).trans H.me,H.drv.keep fun k hk _=>hb.block k hk,H.pool.below hb,H.sub1,H.sub2,H.apart,fun k hk=>⟨(H.tight k hk).1,by have:=(H.tight k hk).2;have:=hb.size;omega⟩,H.xT,H.x1,H.x2⟩
theorem RSys.base (H:RSys b w xb d y p q S1 S2 T D P):b≤w.heap.size:=by have:=H.tight xb H.xT;omega
theorem RSys.otherGrow (H:RSys b w xb d y p q S1 S2 T D P)(t:Turn S' w w')(hT:∀k,S' k→T k)(h1:∀k,S' k→¬S1 k)(h2:∀k,S' k→¬S2 k)(hx:¬S' xb):RSys b w' xb d y p q S1 S2 (grow T w w') D P:=by
 have hz:=t.size
 have hbb:=H.base
 have hin:∀k,T k→grow T w w' k:=fun k h=>⟨.inl h,by have:=(H.tight k h).2;omega⟩
 have Q:=(H.pool.mono (S':=S2) (T':=grow T w w') (fun k _ h=>h) (fun k hk h=>h.1.elim id fun h2=>by omega) (fun k h=>hin k (H.sub2 k h))).other t (fun k hk=>hin k (hT k hk)) h2
 exact⟨(t.block xb H.xlt hx).trans H.me,H.drv.keep fun k hk hs=>t.block k hk fun h=>h1 k h hs,Q,fun k hk=>hin k (H.sub1 k hk),fun k hk=>hin k (H.sub2 k hk),H.apart,fun k hk=>⟨hk.1.elim (fun h=>(H.tight k h).1) fun h=>by omega,hk.2⟩,hin xb H.xT,H.x1,H.x2⟩
theorem RSys.turned (H:RSys b w xb d y p q S1 S2 T D P)(R:RPool w' q y S2 T P')(X:Turn S2 w w'):RSys b w' xb d y p q S1 S2 T D P':=
 ⟨(X.block xb H.xlt H.x2).trans H.me,H.drv.keep fun k hk hs=>X.block k hk (H.apart k hs),R,H.sub1,H.sub2,H.apart,fun k hk=>⟨(H.tight k hk).1,by have:=(H.tight k hk).2;have:=X.size;omega⟩,H.xT,H.x1,H.x2⟩
theorem RSys.drove (H:RSys b w xb d y p q S1 S2 T D P)(R:RDrv w' y (fun k=>S1 k∨w.heap.size≤k) D')(X:Turn S1 w w'):RSys b w' xb d y p q (grow S1 w w') S2 (grow T w w') D' P:=by
 have hz:=X.size
 have hbb:=H.base
 have hin:∀k,T k→grow T w w' k:=fun k h=>⟨.inl h,by have:=(H.tight k h).2;omega⟩
 have Q:=(H.pool.mono (S':=S2) (T':=grow T w w') (fun k _ h=>h) (fun k hk h=>h.1.elim id fun h2=>by omega) (fun k h=>hin k (H.sub2 k h))).other X (fun k hk=>hin k (H.sub1 k hk)) H.apart
 exact⟨(X.block xb H.xlt H.x1).trans H.me,R.mono fun k hk h=>⟨h,hk⟩,Q,fun k hk=>⟨hk.1.imp (H.sub1 k) id,hk.2⟩,fun k hk=>hin k (H.sub2 k hk),fun k hk h=>hk.1.elim (fun h2=>H.apart k h2 h) fun h2=>by have:=(H.tight k (H.sub2 k h)).2;omega,fun k hk=>⟨hk.1.elim (fun h=>(H.tight k h).1) fun h=>by omega,hk.2⟩,hin xb H.xT,fun h=>h.1.elim H.x1 fun h=>by have:=H.xlt;omega,H.x2⟩
end
structure Two (b:Nat)(w:World)(xb d y p q:Nat)(S0 S S1 S2 T:Nat→Prop)(D:DM)(P:Pl):Prop where
 code:SysAt b w d p S0 S T D P
 ref:RSys b w xb d y p q S1 S2 T D P
 sep:∀k,S0 k∨S k→¬S1 k∧¬S2 k∧k≠xb
section
variable {b:Nat}{w w' w'':World}{xb d y p q:Nat}{S0 S S1 S2 T S':Nat→Prop}{D D':DM}{P P':Pl}
theorem Two.below (H:Two b w xb d y p q S0 S S1 S2 T D P)(hb:Below w.heap.size w w'):Two b w' xb d y p q S0 S S1 S2 T D P:=⟨H.code.below hb,H.ref.below hb,H.sep⟩
theorem Two.refOther (H:Two b w xb d y p q S0 S S1 S2 T D P)(X:Turn S w w'):RSys b w' xb d y p q S1 S2 T D P:=
 H.ref.other X H.code.subS (fun k h=>(H.sep k (.inr h)).1) (fun k h=>(H.sep k (.inr h)).2.1) fun h=>(H.sep xb (.inr h)).2.2 rfl
theorem Two.pools (H:Two b w xb d y p q S0 S S1 S2 T D P)(C:SysAt b w' d p S0 S T D P')(X:Turn S w w')(R:RPool w'' q y S2 T P')(X2:Turn S2 w' w''):Two b w'' xb d y p q S0 S S1 S2 T D P'∧Turn T w w'':=
 have R1:=H.refOther X
 ⟨⟨C.own X2 H.ref.sub2 (fun k h h0=>(H.sep k (.inl h0)).2.1 h) (fun k h h0=>(H.sep k (.inr h0)).2.1 h),R1.turned R X2,H.sep⟩,(X.mono H.code.subS).trans X2 fun k hk=>.inl (H.ref.sub2 k hk)⟩
theorem Two.drives (H:Two b w xb d y p q S0 S S1 S2 T D P)(C:SysAt b w' d p S0 S T D' P)(X:Turn S0 w w')(R:RDrv w'' y (fun k=>S1 k∨w'.heap.size≤k) D')(X2:Turn S1 w' w''):Two b w'' xb d y p q S0 S (grow S1 w' w'') S2 (grow T w' w'') D' P∧Turn T w w'':=by
 have R1:=H.ref.other X H.code.sub (fun k h=>(H.sep k (.inl h)).1) (fun k h=>(H.sep k (.inl h)).2.1) fun h=>(H.sep xb (.inl h)).2.2 rfl
 have C2:=C.ownGrow X2 H.ref.sub1 (fun k h h0=>(H.sep k (.inl h0)).1 h) (fun k h h0=>(H.sep k (.inr h0)).1 h)
 refine⟨⟨C2,R1.drove R X2,fun k hk=>⟨fun h=>h.1.elim (H.sep k hk).1 fun h=>?_,(H.sep k hk).2⟩⟩,(X.mono H.code.sub).trans X2 fun k hk=>.inl (H.ref.sub1 k hk)⟩
 have h1:T k:=hk.elim (H.code.sub k) (H.code.subS k)
 have:=(C.tight k h1).2
 omega
theorem Two.bel (H:Two b w xb d y p q S0 S S1 S2 T D P)(X:Turn T w w'):Below b w w':=X.below (fun k hk=>(H.code.tight k hk).1) H.code.base
end
section
def Pl.newTo (P:Pl)(j:Nat):List (Nat × List UInt8):=(List.range j).filterMap P.newA
theorem qae {P:Pl}{j:Nat}(h:P.newA j=none):P.newTo (j+1)=P.newTo j:=by
 unfold Pl.newTo
 rw[List.range_succ,List.filterMap_append]
 simp[h]
theorem qj6 {P:Pl}{j:Nat}{x:Nat × List UInt8}(h:P.newA j=some x):P.newTo (j+1)=P.newTo j++[x]:=by
 unfold Pl.newTo
 rw[List.range_succ,List.filterMap_append]
 simp[h]
theorem qdy (P:Pl)(j:Nat):(P.newTo j).length≤j:=by
 unfold Pl.newTo
 exact Nat.le_trans (List.length_filterMap_le _ _) (by rw[List.length_range];exact Nat.le_refl _)
theorem qfm (P:Pl){j:Nat}(hj:j≤P.C.n):∃r,P.new=P.newTo j++r:=by
 refine⟨((List.range P.C.n).drop j).filterMap P.newA,?_⟩
 unfold Pl.new Pl.newTo
 rw[←List.filterMap_append]
 have h1:List.range j=(List.range P.C.n).take j:=by rw[List.take_range,Nat.min_eq_left hj]
 rw[h1,List.take_append_drop]
theorem qaf (a b:List (Nat × List UInt8)):wIn (a++b)=wIn a++wIn b:=List.map_append
theorem qfn (P:Pl):P.steps=wIn P.new++((wAt (areaAt P.C.n P.g) (areaL P.C P.g)++[.fl])++(wAt (P.g % 2).toNat [swB P.sup (P.g % 2)]++[.fl])):=by
 unfold Pl.steps Pl.blocks cmtL
 rw[List.append_assoc,List.append_assoc]
 rfl
theorem qp4 {D:DM}{P:Pl}(h:P.ok)(hn:D.n=P.C.n):D.runE P.steps=D.cmtE P:=by
 have hs:=(qgc P.steps D (fun a ha=>by rw[hn];exact Pl.steps_ok h a ha)).2.2.2.2.2.2
 unfold DM.cmtE DM.runB
 rcases hs with⟨_,h2,_⟩|⟨_,h2,_⟩
 ·rw[h2];rfl
 ·rw[h2];rfl
theorem qs3 {P:Pl}{j:Nat}{b:Bk}(hL:P.L j=some b)(hG:P.C.get (j:Int)≠0):P.newA j=some (j,b.out j P.g):=by unfold Pl.newA;rw[hL];exact if_neg hG
theorem qmg {P:Pl}{j:Nat}(h:P.L j=none∨P.C.get (j:Int)=0):P.newA j=none:=by
 unfold Pl.newA
 cases hL:P.L j with
 |none=>rfl
 |some b=>
  rcases h with h|h
  ·rw[hL] at h;cases h
  ·exact if_pos h
theorem qs4 {w0 w:World}{y:Nat}{S:Nat→Prop}{D:DM}(L:RDrv w y (fun k=>S k∨w0.heap.size≤k) D)(T:Turn S w0 w){m:Nat}(hok:D.ok m)(hm:m≤900000)(s:Nat)(A:Option Addr)(n c:Nat)(x:List UInt8)(h:Sl w A n c x) :
  Calls Tryz.prog 69 #[.pointer (some ⟨y,0,none⟩),.int .i64 (s:Int),.slice A n c] w fun e w'=>e=.returned (.int .i64 (D.says (.w s x)))∧RDrv w' y (fun k=>S k∨w0.heap.size≤k) (D.does (.w s x))∧Turn S w0 w':=by
 refine (q9x L (s:Int) A n c x h (by have:=hok.1;omega) (fun k=>by have:=hok.2 k;omega)).mono ?_
 rintro e w' ⟨rfl,R,T'⟩
 exact⟨rfl,R.mono fun k _ hk=>hk.elim id fun h=>.inr (Nat.le_trans T.size h),T.trans T' fun k hk=>hk⟩
theorem qp5 {k:Int}{l:List UInt8}(h:(Bk.bytes k l).good){a:Nat}(ha:a≤2047){g:Int}(hg:gen0 g):sealB ⟨k,(a:Int),(l.length:Int),0,g⟩ l=(Bk.bytes k l).out a g:=by
 have h1:(⟨k,(a:Int),(l.length:Int),0,g⟩:Hd).ok=true:=h.hd a g ha hg
 have h2:l.length≤236:=h.body
 unfold sealB
 rw[if_pos h1,if_pos h2]
 rfl
theorem qs5 (y:Nat)(S:Sp)(c g g' n:Nat):(qV y S c g n).toArray.setIfInBounds 37 (.slice (some ⟨g',0,none⟩) n n)=(qV y S c g' n).toArray:=by
 rw[List.setIfInBounds_toArray]
 congr 1
 unfold qV
 rw[List.set_cons_succ,List.set_append_right _ _ (by rw[S.vs_len];omega),S.vs_len]
 rfl
attribute [local go_sem ↓] q12 q1s qhe
theorem qfo {w:World}{q y:Nat}{S1 S2 T:Nat→Prop}{D:DM}{P:Pl}(L0:RDrv w y S1 D)(H:RPool w q y S2 T P)(h1T:∀k,S1 k→T k)(h12:∀k,S1 k→¬S2 k)(hT:∀k,T k→k<w.heap.size)(hok:P.ok)(hkd:∀a b,P.L a=some b→b.kindOk)(hgd:∀a b,P.L a=some b→b.good){m:Nat}(hdk:D.ok m)(hm:m≤50000)(hn:D.n=P.C.n) :
  Calls Tryz.prog 16 #[.pointer (some ⟨q,0,none⟩)] w fun e w'=>e=.returned (.int .i64 (D.cmtE P))∧∃b0,w.heap.size≤b0∧b0≤w'.heap.size∧RDrv w' y (fun k=>(S1 k∨w.heap.size≤k)∧k<b0) (D.runD P.steps)∧RPool w' q y (fun k=>S2 k∨b0≤k) (fun k=>T k∨w.heap.size≤k) (D.cmtP P)∧Turn (fun k=>S1 k∨S2 k) w w':=by
 have hcE:=qp4 hok hn
 have hcn:=hok.c.1
 have hgg:=hok.genOk
 have hmay:=hok.supMay
 have hfine:=q52 hmay
 obtain⟨c,g,Sc,L⟩:=H
 have c0:=L.c0
 have c1:=L.c1
 have c37:=L.c37
 have hql:=L.qlt
 have hgl:=L.glt
 have H2T:∀k,S2 k→T k:=L.sub
 have hsp:=qfn P
 have hstop:∀a r,P.steps=a++r→D.runE a≠0→D.runE a=D.cmtE P∧D.runD a=D.runD P.steps∧D.cmtP P=P:=fun a r e h=>by
  have h1:=qgs (D:=D) (a:=a) r h
  rw[←e] at h1
  refine⟨by rw[←h1.1];exact hcE,h1.2.symm,?_⟩
  unfold DM.cmtP DM.runB
  rw[decide_eq_false (by rw[h1.1];exact h)]
  rfl
 obtain⟨E0,hE0⟩:∃E,D.cmtE P=E:=⟨_,rfl⟩
 obtain⟨DZ,hDZ⟩:∃X,D.runD P.steps=X:=⟨_,rfl⟩
 have hyes:∀D3:DM,D.runE P.steps=0→D.cmtE P=0∧D.cmtP P=P.done:=fun _ h=>⟨by rw[←hcE];exact h,by unfold DM.cmtP DM.runB;rw[h];rfl⟩
 have Hstop:=Lib.hid hstop
 have Hyes:=Lib.hid hyes
 have HE0:=Lib.hid hE0
 have HDZ:=Lib.hid hDZ
 rw[hE0,hDZ]
 obtain⟨G,hG⟩:∃G,P.g=G:=⟨_,rfl⟩
 have hG1:P.S.gen+1=G:=hG
 have hGr:1≤G∧G≤1099511627775:=by rw[←hG];exact hgg
 have hSg:P.S.gen=G-1:=by omega
 rw[hSg] at c1
 have hG2:G-1+1=G:=by omega
 obtain⟨t,ht⟩:∃t:Nat,(G % 2).toNat=t:=⟨_,rfl⟩
 have htm:G.tmod 2=(t:Int):=by rw[Int.tmod_eq_emod_of_nonneg (by omega)];omega
 have hte:G % 2=(t:Int):=by omega
 have ht1:t≤1:=by omega
 have Hsp:=Lib.hid (show P.steps=wIn P.new++((wAt (areaAt P.C.n G) (areaL P.C G)++[.fl])++(wAt t [swB P.sup (t:Int)]++[.fl])) by rw[hsp,hG,hte];rfl)
 have Hsw:=Lib.hid (show (⟨G,P.S.sectors,P.S.log,P.S.vols,P.S.len⟩:Sp)=P.sup by unfold Pl.sup;rw[hG])
 have HG:=Lib.hid hG
 have Hok:=Lib.hid hok
 have Hfine:=Lib.hid hfine
 have Hdk:=Lib.hid hdk
 have HT:=Lib.hid hT
 have H1T:=Lib.hid h1T
 have H12:=Lib.hid h12
 have Hkd:=Lib.hid hkd
 have Hgd:=Lib.hid hgd
 have Hn:=Lib.hid hn
 clear hcE hgg hmay hfine hsp hstop hyes hE0 hDZ hG hSg hG1 ht hok hdk hT h1T h12 hkd hgd hn hte
 have hal:=q1t
 go_enter Tryz.func16,Tryz.ntmps16
 go_wp2_with fail
 clear c1
 go_loopw [4,5,6,7,8] (fun a _ _ _ _ wr=>∃j:Nat,j≤P.C.n∧a=.int .i64 (j:Int)∧D.runE (wIn (P.newTo j))=0∧RDrv wr y (fun k=>S1 k∨w.heap.size≤k) (D.runD (wIn (P.newTo j)))∧Turn S1 w wr) (fun a _ _ _ _ _=>P.C.n-(intOf a).toNat)
 case atStart=>exact⟨0,Nat.zero_le _,rfl,rfl,L0.mono fun k _ h=>.inl h,Turn.refl _ _⟩
 case round=>
  clear L0
  obtain⟨j,hj,rfl,hE,R,X⟩:=hrel
  have Lr:RQ wr q y c g Sc S2 T P:=L.other X H1T.out H12.out
  have r0:=Lr.c0
  have r36:=Lr.c36
  have r37:=Lr.c37
  by_cases hlt:j<P.C.n
  ·have e3:(j:Int)<(P.C.n:Int):=by omega
   have e0:(0:Int)≤(j:Int):=by omega
   have hj2:j≤2047:=by omega
   have hkdc:=Lr.kd hlt
   obtain⟨N0,hN0⟩:∃N0,P.C.get (j:Int)=N0:=⟨_,rfl⟩
   have Hge:=Lib.hid (fun (C1:RC wr c Sc P.C)=>q0u C1 (j:Int) N0 hN0)
   cases hL:P.L j with
   |none=>
    have hne:=qae (qmg (P:=P) (.inl hL))
    rw[hL] at hkdc
    replace hkdc:wr.cell? ⟨g,j*5,none⟩=some (.int .i64 0):=hkdc
    rw[←hne] at hE R
    have HE:=Lib.hid hE
    clear hne hL hN0 hE
    go_wp2_with fail
    refine (Hge.out Lr.ct).mono ?_
    rintro e w1 ⟨rfl,rfl⟩
    go_wp2_with fail
    exact⟨⟨j+1,by omega,by go_num,HE.out,R,X⟩,by simp[intOf];omega⟩
   |some b=>
    rw[hL] at hkdc
    obtain⟨mm,hmm⟩:∃K,kdB (some b)=K:=⟨_,rfl⟩
    have hk0:mm≠0:=by
     rw[←hmm]
     cases b with
     |node N=>show (3:Int)≠0;omega
     |bytes k' l=>
      obtain⟨m',h1,_⟩:=Hkd.out j _ hL
      have:=(q0p h1).1
      show k'≠0
      omega
    by_cases hz:N0=0
    ·have hne:=qae (qmg (P:=P) (.inr (hN0.trans hz)))
     rw[←hne] at hE R
     rw[hmm] at hkdc
     have nb:(mm==0)=false:=by simpa using hk0
     subst hz
     have HE:=Lib.hid hE
     clear hne hL hN0 hE hmm hk0
     go_wp2_with fail
     refine (Hge.out Lr.ct).mono ?_
     rintro e w1 ⟨rfl,rfl⟩
     go_wp2_with fail
     exact⟨⟨j+1,by omega,by go_num,HE.out,R,X⟩,by simp[intOf];omega⟩
    ·have hget:P.C.get (j:Int)≠0:=fun h=>hz (hN0.symm.trans h)
     have hnx:=qj6 (qs3 hL hget)
     rw[HG.out] at hnx
     have nz:(N0==0)=false:=by simpa using hz
     obtain⟨r,hr⟩:=qfm P (j:=j+1) hlt
     obtain⟨ok1,ok2⟩:=q5g (wIn (P.newTo j)) Hdk.out
     have hlen:(wIn (P.newTo j)).length≤j:=by unfold wIn;rw[List.length_map];exact qdy P j
     have hrn:=q8q (D:=D) (x:=Stp.w j (b.out j G)) hE
     have hw1:wIn (P.newTo (j+1))=wIn (P.newTo j)++[Stp.w j (b.out j G)]:=by rw[hnx,qaf];rfl
     rw[←hw1] at hrn
     have HX1:=Lib.hid hrn.1
     have HX2:=Lib.hid hrn.2
     have Hpre:=Lib.hid (show P.steps=wIn (P.newTo (j+1))++(wIn r++((wAt (areaAt P.C.n G) (areaL P.C G)++[.fl])++(wAt t [swB P.sup (t:Int)]++[.fl]))) by rw[Hsp.out,hr,qaf,List.append_assoc])
     have hgo:(D.runD (wIn (P.newTo j))).ok (m+P.C.n):=⟨by omega,fun k=>by have:=ok2 k;omega⟩
     generalize D.runD (wIn (P.newTo j))=D1 at R HX1 HX2 hgo
     have hwr:=fun (w1:World) (A:Option Addr) (n1 c1:Nat) (bb:Below wr.heap.size wr w1) (hs:Sl w1 A n1 c1 (b.out j G))=>qs4 (R.below bb) (X.then (q00 bb)) hgo (by omega) j A n1 c1 _ hs
     rw[←HX1.out,←HX2.out] at hwr
     obtain⟨E1,hE1⟩:∃E,D.runE (wIn (P.newTo (j+1)))=E:=⟨_,rfl⟩
     rw[hE1] at hwr
     have HE1:=Lib.hid hE1
     have Hwr:=Lib.hid hwr
     have hgood:=Hgd.out j b hL
     have hb4:∃v,v.length=5∧wr.rangeAt g (j*5) v∧QB wr T v (some b):=by
      have:=Lr.row.at_ hlt
      rwa [hL] at this
     obtain⟨v,hv5,hvr,hvb⟩:=hb4
     have zr:=X.size
     have hfin:∀w4:World,RDrv w4 y (fun k=>S1 k∨w.heap.size≤k) (D.runD (wIn (P.newTo (j+1))))→Turn S1 w w4→E1≠0→E1=E0∧∃b0,w.heap.size≤b0∧b0≤w4.heap.size∧RDrv w4 y (fun k=>(S1 k∨w.heap.size≤k)∧k<b0) DZ∧RPool w4 q y (fun k=>S2 k∨b0≤k) (fun k=>T k∨w.heap.size≤k) (D.cmtP P)∧Turn (fun k=>S1 k∨S2 k) w w4:=fun w4 R4 X4 h=>by
      obtain⟨h1,h2,h3⟩:=Hstop.out _ _ Hpre.out (by rw[HE1.out];exact h)
      rw[HE1.out,HE0.out] at h1
      rw[HDZ.out] at h2
      rw[h3]
      refine⟨h1,w4.heap.size,X4.size,Nat.le_refl _,h2▸R4.tight,?_,X4.mono fun k hk=>.inl hk⟩
      have L4:RQ w4 q y c g Sc S2 T P:=L.other X4 H1T.out H12.out
      have L5:RQ w4 q y c g Sc S2 (fun k=>T k∨w.heap.size≤k) P:=L.on (fun k hk hs=>X4.block k hk fun h=>H12.out k h hs) (X4.agree fun k hk h=>hk (H1T.out k h)) (fun k hk h=>h.elim id fun h=>by omega) fun k h=>.inl (H2T k h)
      exact⟨c,g,_,L5.mono (fun k _ h=>.inl h) (fun _ _ h=>h) fun k h=>h.elim (fun h=>.inl (H2T k h)) fun h=>.inr (Nat.le_trans X4.size h)⟩
     have Hfin:=Lib.hid hfin
     have HLk:=Lib.hid hL
     have HGr:=Lib.hid (show gen0 G from ⟨by omega,hGr.2⟩)
     clear hfin hL hN0 hz hget hnx hr hw1 hrn hwr hE1 hlen ok1 ok2 hgo HX1 HX2 hmm hk0 hE
     cases b with
     |node N=>
      obtain⟨A,n0,q0,B,m0,e0',rfl,hn0,hm0,hst⟩:=hvb
      obtain⟨hI,hK⟩:=hst.now
      have hcB:wr.cell? ⟨g,j*5+4,none⟩=some (.slice none 0 0):=hvr 4 _ rfl
      have hr3:wr.rangeAt g (j*5+1) [.int .i64 N.lvl,.slice A n0 q0,.slice B m0 e0']:=fun i x hx=>by
       have:=hvr (1+i) x (by rw[Nat.add_comm,List.getElem?_cons_succ];exact (List.getElem?_append_left (l₂:=[Value.slice none 0 0]) (List.getElem?_eq_some_iff.1 hx).1).trans hx)
       rwa [←Nat.add_assoc] at this
      replace hkdc:wr.cell? ⟨g,j*5,none⟩=some (.int .i64 3):=hkdc
      have hF:∀w',Below wr.heap.size wr w'→w'.cell? ⟨q,37,none⟩=some (.slice (some ⟨g,0,none⟩) P.C.n P.C.n)∧w'.cell? ⟨g,j*5,none⟩=some (.int .i64 3)∧w'.cell? ⟨g,j*5+4,none⟩=some (.slice none 0 0):=fun w' hb=>⟨(hb.cell (p:=⟨q,37,none⟩) Lr.qlt).trans r37,(hb.cell (p:=⟨g,j*5,none⟩) Lr.glt).trans hkdc,(hb.cell (p:=⟨g,j*5+4,none⟩) Lr.glt).trans hcB⟩
      clear hvr hv5 hst
      by_cases hz1:E1=0
      ·have n1:(E1 != 0)=false:=by simpa using hz1
       subst hz1
       go_wp2_with fail
       refine (Hge.out Lr.ct).mono ?_
       rintro e w1 ⟨rfl,rfl⟩
       go_wp2_with fail
       have BD:Below wr.heap.size wr wr.drew:=(Below.refl _ _).drew
       go_region_held3 (fun w'=>w'.cell? ⟨q,37,none⟩=some (.slice (some ⟨g,0,none⟩) P.C.n P.C.n)∧w'.cell? ⟨g,j*5,none⟩=some (.int .i64 3)∧w'.cell? ⟨g,j*5+4,none⟩=some (.slice none 0 0))
        (first|assumption|exact hF _ BD|exact hF _ bb3)
        (first
         |(go_at_call 67;refine (q3z ⟨3,(j:Int),0,0,G⟩ none 0 0 [] _ (q0k _)).mono ?_;rintro e w3 ⟨A3,n3,q3,rfl,_,b3⟩;have bb3:Below wr.heap.size wr w3:=BD.trans b3)
         |fail)
       have B3:=bb3
       have L3:=Lr.below B3
       have r370:=L3.c37
       have r00:=L3.c0
       have hk3:=L3.kd hlt
       rw[HLk.out] at hk3
       replace hk3:w3.cell? ⟨g,j*5,none⟩=some (.int .i64 3):=hk3
       have hr3:w3.rangeAt g (j*5+1) [.int .i64 N.lvl,.slice A n0 q0,.slice B m0 e0']:=fun i x hx=>(B3.cell (p:=⟨g,j*5+1+i,none⟩) Lr.glt).trans (hr3 i x hx)
       go_wp2_with (first
        |(refine q6z rfl _ rfl g (j*5+1) rfl [.int .i64 N.lvl,.slice A n0 q0,.slice B m0 e0'] rfl hr3 ?_)
        |(go_at_call 68;refine (q4f N (j:Int) G A n0 q0 B m0 e0' w3 (hI.below B3) (hK.below B3) hn0 hm0).mono ?_;rintro e w4 ⟨A4,n4,q4,rfl,own4,b4⟩;have B4:=B3.trans (b4.mono B3.size);have r00':=(L3.below b4).c0)
        |(go_at_call 69;refine (Hwr.out w4 A4 n4 q4 B4 own4.sl).mono ?_;rintro e w5 ⟨rfl,R5,X5⟩)
        |fail)
       exact⟨⟨j+1,by omega,by go_num,HE1.out,R5,X5⟩,by simp[intOf];omega⟩
      ·have n1:(E1 != 0)=true:=by simpa using hz1
       go_wp2_with fail
       refine (Hge.out Lr.ct).mono ?_
       rintro e w1 ⟨rfl,rfl⟩
       go_wp2_with fail
       have BD:Below wr.heap.size wr wr.drew:=(Below.refl _ _).drew
       go_region_held3 (fun w'=>w'.cell? ⟨q,37,none⟩=some (.slice (some ⟨g,0,none⟩) P.C.n P.C.n)∧w'.cell? ⟨g,j*5,none⟩=some (.int .i64 3)∧w'.cell? ⟨g,j*5+4,none⟩=some (.slice none 0 0))
        (first|assumption|exact hF _ BD|exact hF _ bb3)
        (first
         |(go_at_call 67;refine (q3z ⟨3,(j:Int),0,0,G⟩ none 0 0 [] _ (q0k _)).mono ?_;rintro e w3 ⟨A3,n3,q3,rfl,_,b3⟩;have bb3:Below wr.heap.size wr w3:=BD.trans b3)
         |fail)
       have B3:=bb3
       have L3:=Lr.below B3
       have r370:=L3.c37
       have r00:=L3.c0
       have hk3:=L3.kd hlt
       rw[HLk.out] at hk3
       replace hk3:w3.cell? ⟨g,j*5,none⟩=some (.int .i64 3):=hk3
       have hr3:w3.rangeAt g (j*5+1) [.int .i64 N.lvl,.slice A n0 q0,.slice B m0 e0']:=fun i x hx=>(B3.cell (p:=⟨g,j*5+1+i,none⟩) Lr.glt).trans (hr3 i x hx)
       go_wp2_with (first
        |(refine q6z rfl _ rfl g (j*5+1) rfl [.int .i64 N.lvl,.slice A n0 q0,.slice B m0 e0'] rfl hr3 ?_)
        |(go_at_call 68;refine (q4f N (j:Int) G A n0 q0 B m0 e0' w3 (hI.below B3) (hK.below B3) hn0 hm0).mono ?_;rintro e w4 ⟨A4,n4,q4,rfl,own4,b4⟩;have B4:=B3.trans (b4.mono B3.size);have r00':=(L3.below b4).c0)
        |(go_at_call 69;refine (Hwr.out w4 A4 n4 q4 B4 own4.sl).mono ?_;rintro e w5 ⟨rfl,R5,X5⟩)
        |fail)
       go_ret
       obtain⟨f1,f2⟩:=Hfin.out w5 R5 X5 hz1
       subst f1
       exact⟨rfl,f2⟩
     |bytes k' l=>
      obtain⟨A,n0,q0,rfl,hst⟩:=hvb
      have hs:=hst.now
      have hcB:wr.cell? ⟨g,j*5+4,none⟩=some (.slice A n0 q0):=hvr 4 _ rfl
      replace hkdc:wr.cell? ⟨g,j*5,none⟩=some (.int .i64 k'):=hkdc
      obtain⟨m',hm1,_⟩:=Hkd.out j _ HLk.out
      have hk56:=(q0p hm1).1
      have nk0:(k'==0)=false:=by simp;omega
      have nk3:(k'==3)=false:=by simp;omega
      have hln:=hs.len
      have Hso:=Lib.hid (show sealB ⟨k',(j:Int),(n0:Int),0,G⟩ l=(Bk.bytes k' l).out j G by rw[←hln];exact qp5 hgood hj2 HGr.out)
      have hF:∀w',Below wr.heap.size wr w'→w'.cell? ⟨q,37,none⟩=some (.slice (some ⟨g,0,none⟩) P.C.n P.C.n)∧w'.cell? ⟨g,j*5,none⟩=some (.int .i64 k')∧w'.cell? ⟨g,j*5+4,none⟩=some (.slice A n0 q0):=fun w' hb=>⟨(hb.cell (p:=⟨q,37,none⟩) Lr.qlt).trans r37,(hb.cell (p:=⟨g,j*5,none⟩) Lr.glt).trans hkdc,(hb.cell (p:=⟨g,j*5+4,none⟩) Lr.glt).trans hcB⟩
      clear hvr hv5 hst hm1 hk56 hln
      by_cases hz1:E1=0
      ·have n1:(E1 != 0)=false:=by simpa using hz1
       subst hz1
       go_wp2_with fail
       refine (Hge.out Lr.ct).mono ?_
       rintro e w1 ⟨rfl,rfl⟩
       go_wp2_with fail
       have BD:Below wr.heap.size wr wr.drew:=(Below.refl _ _).drew
       go_region_held3 (fun w'=>w'.cell? ⟨q,37,none⟩=some (.slice (some ⟨g,0,none⟩) P.C.n P.C.n)∧w'.cell? ⟨g,j*5,none⟩=some (.int .i64 k')∧w'.cell? ⟨g,j*5+4,none⟩=some (.slice A n0 q0))
        (first|assumption|exact hF _ BD|exact hF _ bb3)
        (first
         |(go_at_call 67;refine (q3z ⟨k',(j:Int),(n0:Int),0,G⟩ A n0 q0 l _ (hs.below BD)).mono ?_;rw[Hso.out];rintro e w3 ⟨A3,n3,q3,rfl,s3,b3⟩;have bb3:Below wr.heap.size wr w3:=BD.trans b3)
         |fail)
       have B3:=bb3
       have L3:=Lr.below B3
       have r370:=L3.c37
       have r00:=L3.c0
       have hk3:=L3.kd hlt
       rw[HLk.out] at hk3
       replace hk3:w3.cell? ⟨g,j*5,none⟩=some (.int .i64 k'):=hk3
       go_wp2_with (first
        |(go_at_call 69;refine (Hwr.out w3 A3 n3 q3 B3 s3).mono ?_;rintro e w5 ⟨rfl,R5,X5⟩)
        |fail)
       exact⟨⟨j+1,by omega,by go_num,HE1.out,R5,X5⟩,by simp[intOf];omega⟩
      ·have n1:(E1 != 0)=true:=by simpa using hz1
       go_wp2_with fail
       refine (Hge.out Lr.ct).mono ?_
       rintro e w1 ⟨rfl,rfl⟩
       go_wp2_with fail
       have BD:Below wr.heap.size wr wr.drew:=(Below.refl _ _).drew
       go_region_held3 (fun w'=>w'.cell? ⟨q,37,none⟩=some (.slice (some ⟨g,0,none⟩) P.C.n P.C.n)∧w'.cell? ⟨g,j*5,none⟩=some (.int .i64 k')∧w'.cell? ⟨g,j*5+4,none⟩=some (.slice A n0 q0))
        (first|assumption|exact hF _ BD|exact hF _ bb3)
        (first
         |(go_at_call 67;refine (q3z ⟨k',(j:Int),(n0:Int),0,G⟩ A n0 q0 l _ (hs.below BD)).mono ?_;rw[Hso.out];rintro e w3 ⟨A3,n3,q3,rfl,s3,b3⟩;have bb3:Below wr.heap.size wr w3:=BD.trans b3)
         |fail)
       have B3:=bb3
       have L3:=Lr.below B3
       have r370:=L3.c37
       have r00:=L3.c0
       have hk3:=L3.kd hlt
       rw[HLk.out] at hk3
       replace hk3:w3.cell? ⟨g,j*5,none⟩=some (.int .i64 k'):=hk3
       go_wp2_with (first
        |(go_at_call 69;refine (Hwr.out w3 A3 n3 q3 B3 s3).mono ?_;rintro e w5 ⟨rfl,R5,X5⟩)
        |fail)
       go_ret
       obtain⟨f1,f2⟩:=Hfin.out w5 R5 X5 hz1
       subst f1
       exact⟨rfl,f2⟩
  ·obtain rfl:j=P.C.n:=by omega
   have e3:¬(P.C.n:Int)<(P.C.n:Int):=by omega
   have hE:D.runE (wIn P.new)=0:=hE
   have R:RDrv wr y (fun k=>S1 k∨w.heap.size≤k) (D.runD (wIn P.new)):=R
   have hlen:(wIn P.new).length≤P.C.n:=by unfold wIn;rw[List.length_map];exact qdy P P.C.n
   have okn:(D.runD (wIn P.new)).ok (m+2048):=(q5g _ Hdk.out).mono (by omega)
   have har:areaN P.C.n≤18:=by unfold areaN;omega
   have hat:areaAt P.C.n G≤40:=by have:=(q1i hcn.1 hcn.2 G (i:=0) (by unfold areaN;omega)).2.1;omega
   obtain⟨X1,hX1⟩:∃X,wAt (areaAt P.C.n G) (areaL P.C G)++[Stp.fl]=X:=⟨_,rfl⟩
   obtain⟨X2,hX2⟩:∃X,wAt t [swB P.sup (t:Int)]++[Stp.fl]=X:=⟨_,rfl⟩
   have hx1l:X1.length≤30:=by
    rw[←hX1,List.length_append,q4d,q10]
    show areaN P.C.n+1≤30
    omega
   have Hsp2:=Lib.hid (show P.steps=wIn P.new++(X1++X2) by rw[Hsp.out,hX1,hX2])
   have ok2:((D.runD (wIn P.new)).runD X1).ok (m+2100):=(q5g X1 okn).mono (by omega)
   have HA1:=Lib.hid (show D.runE (wIn P.new++X1)=(D.runD (wIn P.new)).runE X1 by rw[q13,if_pos hE])
   have HA2:=Lib.hid (show D.runD (wIn P.new++X1)=(D.runD (wIn P.new)).runD X1 by rw[q14,if_pos hE])
   have HA3:=Lib.hid (show P.steps=(wIn P.new++X1)++X2 by rw[Hsp2.out,List.append_assoc])
   have HX1:=Lib.hid hX1
   have HX2:=Lib.hid hX2
   have zr:=X.size
   generalize D.runD (wIn P.new)=D1 at R okn ok2 HA1 HA2
   have Okn:=Lib.hid okn
   have Ok2:=Lib.hid ok2
   have HgOk:=Lib.hid (show genOk G from hGr)
   have Rt:=R.tight
   have Hend:=Lib.hid (fun (w4:World) (D4:DM) (E4:Int) (a r:List Stp) (hp:P.steps=a++r) (hE4:D.runE a=E4) (hD4:D.runD a=D4) (R4:RDrv w4 y (fun k=>S1 k∨w.heap.size≤k) D4) (X4:Turn S1 w w4) (h:E4≠0)=>show E4=E0∧∃b0,w.heap.size≤b0∧b0≤w4.heap.size∧RDrv w4 y (fun k=>(S1 k∨w.heap.size≤k)∧k<b0) DZ∧RPool w4 q y (fun k=>S2 k∨b0≤k) (fun k=>T k∨w.heap.size≤k) (D.cmtP P)∧Turn (fun k=>S1 k∨S2 k) w w4 from by
    obtain⟨h1,h2,h3⟩:=Hstop.out a r hp (by rw[hE4];exact h)
    rw[hE4,HE0.out] at h1
    rw[hD4,HDZ.out] at h2
    rw[h3]
    refine⟨h1,w4.heap.size,X4.size,Nat.le_refl _,h2▸R4.tight,?_,X4.mono fun k hk=>.inl hk⟩
    have L5:RQ w4 q y c g Sc S2 (fun k=>T k∨w.heap.size≤k) P:=L.on (fun k hk hs=>X4.block k hk fun h=>H12.out k h hs) (X4.agree fun k hk h=>hk (H1T.out k h)) (fun k hk h=>h.elim id fun h=>by omega) fun k h=>.inl (H2T k h)
    exact⟨c,g,_,L5.mono (fun k _ h=>.inl h) (fun _ _ h=>h) fun k h=>h.elim (fun h=>.inl (H2T k h)) fun h=>.inr (Nat.le_trans X4.size h)⟩)
   clear hE hlen hX1 hX2 hx1l okn ok2 R
   go_wp2_with fail
   refine (q8s Lr.ct G HgOk.out).mono ?_
   rintro e w1 ⟨A1,n1,q1,rfl,Q1,b1⟩
   have hl1:=Q1.prow.len
   rw[q10] at hl1
   have Lw1:=Lr.below b1
   have r01:=Lw1.c0
   have hw2:=q2t (Rt.below b1) (areaAt P.C.n G) wr.heap.size A1 n1 q1 _ Q1 (fun k hk=>hk.2) (by omega) (by omega) Okn.out (by omega)
   rw[HX1.out] at hw2
   obtain⟨E2,hE2⟩:∃E,D1.runE X1=E:=⟨_,rfl⟩
   obtain⟨D2,hD2⟩:∃X,D1.runD X1=X:=⟨_,rfl⟩
   rw[hE2,hD2] at hw2
   have HE2:=Lib.hid (HA1.out.trans hE2)
   have HD2:=Lib.hid (HA2.out.trans hD2)
   have Hok2:=Lib.hid (show D2.ok (m+2100) from hD2▸Ok2.out)
   have Hw2:=Lib.hid hw2
   have z1:=b1.size
   clear hw2 hE2 hD2 HA1 HA2 Q1 hl1
   go_wp2_with fail
   refine Hw2.out.mono ?_
   rintro e w2 ⟨rfl,R2',T2⟩
   have z2:=T2.size
   have X2w:Turn S1 w w2:=(X.then (q00 b1)).trans T2 fun k hk=>hk.1.elim .inl fun h=>.inr h
   have R2:RDrv w2 y (fun k=>S1 k∨w.heap.size≤k) D2:=R2'.mono fun k hk h=>h.elim (fun h=>h.1) fun h=>.inr (by omega)
   have Lw2:RQ w2 q y c g Sc S2 T P:=L.other X2w H1T.out H12.out
   clear R2' T2 Hw2 Lw1
   by_cases hz2:E2=0
   ·have n2:(E2 != 0)=false:=by simpa using hz2
    subst hz2
    have hl2:=Lw2.ld
    have bs:Below w2.heap.size w2 (w2.alloc (.cells Sp.zero.vs.toArray 56)):=blA
    have Xs:=SB.new w2 Sp.zero 56
    have zs:(w2.alloc (.cells Sp.zero.vs.toArray 56)).heap.size=w2.heap.size+1:=World.size_alloc ..
    go_wp2_with (first
     |(refine q03 rfl _ _ rfl w2.heap.size rfl P.S Sp.zero rfl Xs ?_;intro w3 X3 hb3 T3;have q3:=X3.c0;have f3:=X3.fz 0;have X4:=X3.set0 G;rw[Hsw.out] at X4;have hl4:=X4.ld)
     |fail)
    have B4:Below w2.heap.size w2 (w3.setCell ⟨w2.heap.size,0,none⟩ (.int .i64 G)):=(bs.trans (hb3 _ (Nat.le_refl _))).trans ((q19 (bp:=w2.heap.size) w3 0 (.int .i64 G)).below (fun k hk=>by omega) (by have h1:=T3.size;omega))
    generalize w3.setCell ⟨w2.heap.size,0,none⟩ (.int .i64 G)=w4 at B4 X4 hl4 ⊢
    refine (q3p P.sup (t:Int) Hfine.out w4).mono ?_
    rintro e w5 ⟨A5,n5,q5,rfl,own5,b5⟩
    have z4:=B4.size
    have z5:=b5.size
    have B5:=B4.trans (b5.mono B4.size)
    have X5s:=X4.below b5 X4.lt
    have b6:Below w5.heap.size w5 (w5.alloc (.cells #[.slice A5 n5 q5] 30)):=blA
    have z6:=b6.size
    have Q5:=qhg own5.sl (q99 own5) z5
    have B6:=B5.trans (b6.mono B5.size)
    have r05:=(Lw2.below B5).c0
    have hw6:=q2t (R2.tight.below B6) t w4.heap.size (some ⟨w5.heap.size,0,none⟩) 1 1 _ Q5 (fun k hk=>by have:=hk.2;omega) (by omega) (by omega) Hok2.out (by omega)
    rw[HX2.out] at hw6
    obtain⟨E6,hE6⟩:∃E,D2.runE X2=E:=⟨_,rfl⟩
    obtain⟨D6,hD6⟩:∃X,D2.runD X2=X:=⟨_,rfl⟩
    rw[hE6,hD6] at hw6
    have HE6:=Lib.hid (show D.runE P.steps=E6 by rw[HA3.out,q13,if_pos HE2.out,HD2.out,hE6])
    have HD6:=Lib.hid (show D.runD P.steps=D6 by rw[HA3.out,q14,if_pos HE2.out,HD2.out,hD6])
    have Hw6:=Lib.hid hw6
    clear hw6 hE6 hD6 own5 Q5 hl2 Xs X3 X4 hb3 T3 q3 f3
    go_wp2_with fail
    refine Hw6.out.mono ?_
    rintro e w6 ⟨rfl,R6',T6⟩
    have z6':=T6.size
    have X6w:Turn S1 w w6:=((X2w.then (q00 B6))).trans T6 fun k hk=>hk.1.elim .inl fun h=>.inr h
    have R6:RDrv w6 y (fun k=>S1 k∨w.heap.size≤k) D6:=R6'.mono fun k hk h=>h.elim (fun h=>h.1) fun h=>.inr (by have:=X2w.size;omega)
    have Lw6:RQ w6 q y c g Sc S2 T P:=L.other X6w H1T.out H12.out
    have X6s:SB w6 w2.heap.size P.sup:=(X5s.below b6 X5s.lt).block (T6.block w2.heap.size (by have:=X5s.lt;omega) fun h=>by have:=h.2;omega)
    clear R6' T6 Hw6
    by_cases hz6:E6=0
    ·have n6:(E6 != 0)=false:=by simpa using hz6
     subst hz6
     obtain⟨y1,y2⟩:=Hyes.out D (HE6.out)
     have Y1:=Lib.hid (HE0.out.symm.trans y1)
     have Y2:=Lib.hid y2
     have HDZ6:=Lib.hid (HDZ.out.symm.trans HD6.out)
     have hl6:=X6s.ld
     have hmk:=fun w'=>qme P.C.n (by omega) w'
     clear y1 y2 n2
     go_wp2_with (first
      |(refine q5i rfl _ _ rfl Lw6 rfl P.sup Hfine.out rfl ?_;intro w7 L7 T7;have r367:=L7.c36)
      |(go_at_call 73;refine (q55 L7.ct).mono ?_;rintro e w8 ⟨rfl,C8,T8⟩;have q8:=(T8.block q L7.qlt fun h=>(L7.ne.2 q h).1 rfl);have r378:=(World.cell?_of_block (a:=⟨q,37,none⟩) q8).trans L7.c37;have b9:Below w8.heap.size w8 (litQ P.C.n w8):=blA;have hq8:q<w8.heap.size:=Nat.lt_of_lt_of_le L7.qlt T8.size;have q9:=(b9.block q hq8).trans q8;have r379:(litQ P.C.n w8).cell? ⟨q,37,none⟩=some (.slice (some ⟨g,0,none⟩) P.C.n P.C.n):=(b9.cell (p:=⟨q,37,none⟩) hq8).trans r378;have f379:(litQ P.C.n w8).frozen? ⟨q,37,none⟩=false:=by (have h:=L7.fz 37;unfold World.frozen? at h ⊢;rw[q9];exact h))
      |fail)
     go_ret
     have zl8:(litQ P.C.n w8).heap.size=w8.heap.size+1:=q64 _ _
     have z7:=T7.size
     have z8:=T8.size
     have zw6:=X6w.size
     have hgne:∀k,Sc k→k<w.heap.size:=fun k hk=>HT.out k (H2T k (L.inS.2.2 k hk))
     have T10:Turn (fun k=>k=q) (litQ P.C.n w8) ((litQ P.C.n w8).setCell ⟨q,37,none⟩ (.slice (some ⟨w8.heap.size,0,none⟩) P.C.n P.C.n)):=q19 (bp:=q) (litQ P.C.n w8) 37 _
     obtain⟨ty,hme7⟩:=L7.me
     have hme9:=q9.trans hme7
     have hme10:=heap_setCell_same (litQ P.C.n w8) q 37 _ ty (.slice (some ⟨w8.heap.size,0,none⟩) P.C.n P.C.n) hme9
     have hrow0:((litQ P.C.n w8).setCell ⟨q,37,none⟩ (.slice (some ⟨w8.heap.size,0,none⟩) P.C.n P.C.n)).heap[w8.heap.size]?=(litQ P.C.n w8).heap[w8.heap.size]?:=T10.block w8.heap.size (by omega) (by omega)
     have hQR:=fun TT=>qhf hrow0 TT
     generalize (litQ P.C.n w8).setCell ⟨q,37,none⟩ (.slice (some ⟨w8.heap.size,0,none⟩) P.C.n P.C.n)=w10 at T10 hme10 hQR ⊢
     have z10:=T10.size
     have T710:Turn (fun k=>(k=q∨Sc k)) w7 w10:=((T8.mono fun k hk=>.inr hk).then (q00 b9)).trans T10 fun k hk=>.inl (.inl hk)
     have T610:Turn (fun k=>(k=q∨Sc k)) w6 w10:=(T7.mono fun k hk=>.inl hk).trans T710 fun k hk=>.inl hk
     have hSc2:∀k,k=q∨Sc k→S2 k:=fun k hk=>hk.elim (fun h=>h▸L.inS.1) (L.inS.2.2 k)
     rw[Y2.out,HDZ6.out]
     refine⟨by rw[Y1.out];rfl,w6.heap.size,by omega,by omega,?_,?_,(X6w.mono fun k hk=>.inl hk).trans T610 fun k hk=>.inl (.inr (hSc2 k hk))⟩
     ·exact R6.tight.keep fun k hk hs=>T610.block k hk fun h=>hs.1.elim (fun h1=>H12.out k h1 (hSc2 k h)) fun h1=>by have:=HT.out k (H2T k (hSc2 k h));omega
     ·refine⟨c,w8.heap.size,fun k=>(Sc k∨w7.heap.size≤k)∧k<w8.heap.size,⟨ty,?_⟩,?_,hQR _,⟨.inl L.inS.1,.inr (by omega),fun k hk=>hk.1.elim (fun h=>.inl (L.inS.2.2 k h)) fun h=>.inr (by omega)⟩,⟨by omega,fun k hk=>⟨hk.1.elim (fun h=>(L.ne.2 k h).1) fun h=>by omega,by omega⟩⟩,fun k hk=>hk.elim (fun h=>.inl (H2T k h)) fun h=>.inr (by omega),Hfine.out⟩
      ·rw[hme10]
       congr 2
       exact qs5 _ _ _ _ _ _
      ·exact C8.tight.keep fun k hk hs=>(T10.block k (by omega) fun h=>by
        have:Sc k∨w7.heap.size≤k:=hs.1
        rcases this with h2|h2
        ·exact (L.ne.2 k h2).1 h
        ·omega).trans (b9.block k hk)
    ·have n6:(E6 != 0)=true:=by simpa using hz6
     go_wp2
     go_ret
     obtain⟨f1,f2⟩:=Hend.out w6 D6 E6 P.steps [] (List.append_nil _).symm HE6.out HD6.out R6 X6w hz6
     subst f1
     exact⟨rfl,f2⟩
   ·have n2:(E2 != 0)=true:=by simpa using hz2
    go_wp2
    go_ret
    obtain⟨f1,f2⟩:=Hend.out w2 D2 E2 (wIn P.new++X1) X2 HA3.out HE2.out HD2.out R2 X2w hz2
    subst f1
    exact⟨rfl,f2⟩
end
theorem qmh {D:DM}{m:Nat}(h:D.tame m):D.ok m:=⟨h.steps,h.rows⟩
structure PInv (i:Nat)(D:DM)(P:Pl):Prop where
 inv:P.inv
 n:D.n=P.C.n
 small:32≤P.C.n∧P.C.n≤63
 tame:D.tame (40+70*i)
 low:D.all2 (lowQ (i+1))
 gen:P.S.gen≤(i:Int)+1
theorem PInv.next {i:Nat}{D:DM}{P P':Pl}(h:PInv i D P)(hi:P'.inv)(hn:P'.C.n=P.C.n)(hg:P'.S.gen=P.S.gen):PInv (i+1) D P':=
 ⟨hi,by rw[hn];exact h.n,by rw[hn];exact h.small,h.tame.mono (by omega),q7s h.low fun s x hx h2=>Nat.le_succ_of_le (hx h2),by rw[hg];have:=h.gen;omega⟩
def Gone (w:World)(xb:Nat):Prop:=w.cell? ⟨xb,3,none⟩=some (.pointer none)∧w.cell? ⟨xb,2,none⟩=some (.pointer none)
theorem qmi {b:Nat}{w:World}{xb d y p q:Nat}{S0 S S1 S2 T:Nat→Prop}{D:DM}{P:Pl}(H:Two b w xb d y p q S0 S S1 S2 T D P)(hb:1<b)(ht:Tab w)(hgn:(mtS D.newest).gen<1099511627775) :
  Calls Tryz.prog 19 #[.pointer (some ⟨xb,0,none⟩)] w fun e w'=>e=.returned (.bool true)∧Tab w'∧Turn (fun k=>k=xb) w w'∧
   ((mtE D.newest D.off D.n=0∧∃p' q' S' S2' T',Two b w' xb d y p' q' S0 S' S1 S2' T' D (Pl.mounted D.newest D.n))∨(mtE D.newest D.off D.n≠0∧Gone w' xb)):=by
 have c0:=H.ref.c0
 have c1:=H.ref.c1
 have hxl:=H.ref.xlt
 have hbs:=H.code.base
 have hp:=q6u H.code.drv ht hgn
 have hr:=fun (w1:World) (bb:Below w.heap.size w w1)=>qac (H.ref.drv.below bb)
 obtain⟨E,hE⟩:∃E,mtE D.newest D.off D.n=E:=⟨_,rfl⟩
 obtain⟨PM,hPM⟩:∃X,Pl.mounted D.newest D.n=X:=⟨_,rfl⟩
 rw[hE,hPM] at hp ⊢
 simp only[hE,hPM] at hr
 have Hr:=Lib.hid hr
 have Hp:=Lib.hid hp
 clear hp hr hE hPM
 go_enter Tryz.func19,Tryz.ntmps19
 go_wp2_with fail
 refine Hp.out.mono ?_
 rintro e w1 ⟨⟨hz,p',rfl,hpool,hp'⟩|⟨hz,rfl⟩,b1⟩
 ·have z1:=b1.size
  have R1:=H.ref.below b1
  have c1':=R1.c1
  subst hz
  go_wp2_with fail
  refine (Hr.out w1 b1).mono ?_
  rintro e w2 ⟨⟨_,q',rfl,hpoolR,hq'⟩|⟨h,_⟩,b2⟩
  ·have z2:=b2.size
   have BB:=b1.trans (b2.mono z1)
   have H2:=H.below BB
   have R2:=H2.ref
   have x2:=R2.c2
   have x3:=R2.c3
   have f2:=R2.fz 2
   have f3:=R2.fz 3
   have T3:Turn (fun k=>k=xb) w2 (w2.setCell ⟨xb,2,none⟩ (.pointer (some ⟨p',0,none⟩))):=q19 (bp:=xb) w2 2 _
   have hm3:=heap_setCell_same w2 xb 2 _ _ (.pointer (some ⟨p',0,none⟩)) R2.me
   have x33:(w2.setCell ⟨xb,2,none⟩ (.pointer (some ⟨p',0,none⟩))).cell? ⟨xb,3,none⟩=some (.pointer (some ⟨q,0,none⟩)):=by rw[cell_of_row _ _ _ _ _ _ hm3];rfl
   have f33:(w2.setCell ⟨xb,2,none⟩ (.pointer (some ⟨p',0,none⟩))).frozen? ⟨xb,3,none⟩=false:=by unfold World.frozen?;rw[hm3];simp
   go_wp2_with fail
   go_ret
   have T4:Turn (fun k=>k=xb) (w2.setCell ⟨xb,2,none⟩ (.pointer (some ⟨p',0,none⟩))) ((w2.setCell ⟨xb,2,none⟩ (.pointer (some ⟨p',0,none⟩))).setCell ⟨xb,3,none⟩ (.pointer (some ⟨q',0,none⟩))):=q19 (bp:=xb) _ 3 _
   have hm4:=heap_setCell_same (w2.setCell ⟨xb,2,none⟩ (.pointer (some ⟨p',0,none⟩))) xb 3 _ _ (.pointer (some ⟨q',0,none⟩)) hm3
   have T24:=T3.trans T4 fun k hk=>.inl hk
   generalize (w2.setCell ⟨xb,2,none⟩ (.pointer (some ⟨p',0,none⟩))).setCell ⟨xb,3,none⟩ (.pointer (some ⟨q',0,none⟩))=w4 at T24 hm4 ⊢
   have z4:=T24.size
   have hTt:=H.code.tight
   have hxT:=H.ref.xT
   refine⟨rfl,(ht.below BB ht.1).turned T24 fun h=>by have h1:1=xb:=h;have:=(hTt xb hxT).1;omega,(q00 (S:=fun k=>k=xb) BB).trans T24 fun k hk=>.inl hk,?_⟩
   refine (fun h=>by first|exact .inl ⟨rfl,h⟩|exact h:(∃p' q' S' S2' T',Two b w4 xb d y p' q' S0 S' S1 S2' T' D PM)→_) ?_
   refine⟨p',q',fun k=>w.heap.size≤k∧k<w1.heap.size,fun k=>w1.heap.size≤k∧k<w2.heap.size,fun k=>(T k∨w.heap.size≤k)∧k<w2.heap.size,?_⟩
   have hin:∀k,T k→(T k∨w.heap.size≤k)∧k<w2.heap.size:=fun k h=>⟨.inl h,by have:=(hTt k h).2;omega⟩
   have Pc:Pool w2 p' d (fun k=>w.heap.size≤k∧k<w1.heap.size) (fun k=>(T k∨w.heap.size≤k)∧k<w2.heap.size) PM:=
    ((hpool (fun k=>T k∨w.heap.size≤k) fun k h=>.inr h).mono (fun k hk h=>⟨h,hk⟩) (fun k hk h=>h.1) fun k h=>⟨.inr h.1,by omega⟩).below b2
   have Pr:RPool w2 q' y (fun k=>w1.heap.size≤k∧k<w2.heap.size) (fun k=>(T k∨w.heap.size≤k)∧k<w2.heap.size) PM:=
    (hpoolR (fun k=>T k∨w.heap.size≤k) fun k h=>.inr (by omega)).mono (fun k hk h=>⟨h,hk⟩) (fun k hk h=>h.1) fun k h=>⟨.inr (by omega),h.2⟩
   refine⟨⟨H2.code.drv.keep fun k hk hs=>T24.block k hk fun h=>(H.sep k (.inl hs)).2.2 h,Pc.other T24 (fun k h=>h▸hin xb hxT) (fun k h h2=>by subst h;omega),fun k hk=>hin k (H.code.sub k hk),fun k hk h=>by have:=(hTt k (H.code.sub k hk)).2;omega,fun k hk=>⟨hk.1.elim (fun h=>(hTt k h).1) fun h=>by omega,by omega⟩⟩,
    ⟨hm4,H2.ref.drv.keep fun k hk hs=>T24.block k hk fun h=>H.ref.x1 (h▸hs),Pr.other T24 (fun k h=>h▸hin xb hxT) (fun k h h2=>by subst h;omega),fun k hk=>hin k (H.ref.sub1 k hk),fun k hk=>⟨.inr (by omega),hk.2⟩,fun k hk h=>by have:=(hTt k (H.ref.sub1 k hk)).2;omega,fun k hk=>⟨hk.1.elim (fun h=>(hTt k h).1) fun h=>by omega,by omega⟩,hin xb hxT,H.ref.x1,fun h=>by omega⟩,
    fun k hk=>?_⟩
   rcases hk with hk|hk
   ·exact⟨(H.sep k (.inl hk)).1,fun h=>by have:=(hTt k (H.code.sub k hk)).2;omega,(H.sep k (.inl hk)).2.2⟩
   ·exact⟨fun h=>by have:=(hTt k (H.ref.sub1 k h)).2;omega,fun h=>by omega,by omega⟩
  ·exact absurd rfl h
 ·have z1:=b1.size
  have R1:=H.ref.below b1
  have c1':=R1.c1
  go_wp2_with fail
  refine (Hr.out w1 b1).mono ?_
  rintro e w2 ⟨⟨h,_⟩|⟨_,rfl⟩,b2⟩
  ·exact absurd h hz
  ·have z2:=b2.size
   have BB:=b1.trans (b2.mono z1)
   have R2:=H.ref.below BB
   have x2:=R2.c2
   have x3:=R2.c3
   have f2:=R2.fz 2
   have f3:=R2.fz 3
   have T3:Turn (fun k=>k=xb) w2 (w2.setCell ⟨xb,2,none⟩ (.pointer none)):=q19 (bp:=xb) w2 2 _
   have hm3:=heap_setCell_same w2 xb 2 _ _ (.pointer none) R2.me
   have x33:(w2.setCell ⟨xb,2,none⟩ (.pointer none)).cell? ⟨xb,3,none⟩=some (.pointer (some ⟨q,0,none⟩)):=by rw[cell_of_row _ _ _ _ _ _ hm3];rfl
   have f33:(w2.setCell ⟨xb,2,none⟩ (.pointer none)).frozen? ⟨xb,3,none⟩=false:=by unfold World.frozen?;rw[hm3];simp
   have nE:(E != E)=false:=by simp
   go_wp2_with fail
   go_ret
   have T4:Turn (fun k=>k=xb) (w2.setCell ⟨xb,2,none⟩ (.pointer none)) ((w2.setCell ⟨xb,2,none⟩ (.pointer none)).setCell ⟨xb,3,none⟩ (.pointer none)):=q19 (bp:=xb) _ 3 _
   have hm4:=heap_setCell_same (w2.setCell ⟨xb,2,none⟩ (.pointer none)) xb 3 _ _ (.pointer none) hm3
   have T24:=T3.trans T4 fun k hk=>.inl hk
   generalize (w2.setCell ⟨xb,2,none⟩ (.pointer none)).setCell ⟨xb,3,none⟩ (.pointer none)=w4 at T24 hm4 ⊢
   exact⟨rfl,(ht.below BB ht.1).turned T24 fun h=>by have h1:1=xb:=h;have:=(H.code.tight xb H.ref.xT).1;omega,(q00 (S:=fun k=>k=xb) BB).trans T24 fun k hk=>.inl hk,.inr ⟨hz,by rw[cell_of_row _ _ _ _ _ _ hm4];rfl,by rw[cell_of_row _ _ _ _ _ _ hm4];rfl⟩⟩
end Go.Proofs.YtipejjgodnnkaaaGreatDoor
