/- A pool as plain data: behind Format and behind a Commit the disk holds what it should: pla -/
import Derived.Test.YtipejjgodnnkaaaGreatDoorNodeK
import Derived.Test.YtipejjgodnnkaaaGreatDoorPm25
namespace Go.Proofs.YtipejjgodnnkaaaGreatDoor
open Go Go.RowKit Go.Proofs
set_option maxHeartbeats 4000000
set_option maxRecDepth 100000
structure DM.free (D:DM):Prop where
 on:D.off=false
 unfused:D.fused=false
theorem ql5 {D:DM}(h:D.free)(m:Nat):D.room m=m:=by
 unfold DM.room
 rw[h.on,h.unfused]
 rfl
theorem qgt {D:DM}(h:D.free){l:List Stp}(hl:∀a∈l,a.ok D.n):D.runE l=0∧(D.runD l).free∧(D.runD l).n=D.n∧(D.runD l).steps=D.steps+l.length∧(D.runD l).mem=D.mem.gos l:=by
 obtain⟨h1,h2,_,h4,h5,_,h7⟩:=qgc l D hl
 have hr:=ql5 h l.length
 rw[hr,List.take_length] at h1
 rw[hr] at h5
 rcases h7 with⟨_,j2,j3⟩|⟨j1,_,_⟩
 ·exact⟨j2,⟨j3.trans h.on,h4.trans h.unfused⟩,h2,h5,h1⟩
 ·omega
theorem ql6 (D:DM)(s:Nat):D.mem.cac s=D.cac s:=rfl
theorem qre (D:DM)(s:Nat):D.mem.dur s=D.dur s:=rfl
theorem qil (D:DM)(s:Nat):D.mem.newest s=D.newest s:=rfl
def Pl.fresh (n:Nat):Pl:=⟨fmtS n,Ct.zero n,fun _=>none⟩
theorem qoc {n:Nat}(h1:32≤n)(h2:n≤2048):(Pl.fresh n).ok:=
 ⟨Ct.zero_ok h1 h2,Ct.zero_res n,q3q h1 h2,by show (n:Int)=((Ct.zero n).n:Int);rw[Ct.zero_n],by show (1:Int)<1099511627775;omega,fun a b h=>by cases h⟩
structure Sound (D:DM)(P:Pl)(S0:Sp)(C0:Ct):Prop where
 free:D.free
 n:D.n=P.C.n
 set_:∀s,D.cac s=[]
 holds:Holds0 P S0 C0 D.dur
theorem qbi {D:DM}{n:Nat}(h1:32≤n)(h2:n≤2048)(hn:D.n=n)(h:D.free):D.runE (fmtL n)=0∧Sound (D.runD (fmtL n)) (Pl.fresh n) (fmtS n) (Ct.zero n)∧(D.runD (fmtL n)).steps=D.steps+(areaN n+6):=by
 subst hn
 obtain⟨e0,e1,e2,e3,e4⟩:=qgt h (qt5 h1 h2)
 rw[qky] at e3
 have hc:∀s,(D.runD (fmtL D.n)).cac s=[]:=fun s=>by
  rw[←ql6,e4]
  unfold fmtL fmtC
  rw[q6k,q6k]
  rfl
 have hd:∀s,(D.runD (fmtL D.n)).dur s=lastW s (fmtL D.n) (D.newest s):=fun s=>by
  have h3:(D.runD (fmtL D.n)).newest s=(D.runD (fmtL D.n)).dur s:=by unfold DM.newest;rw[hc];rfl
  rw[←h3,←qil,e4,q4w]
  rfl
 obtain⟨r0,r1,r2⟩:=qkz h1 h2 D.newest
 refine⟨e0,⟨e1,e2.trans (Ct.zero_n _).symm,hc,?_⟩,e3⟩
 refine⟨q3q h1 h2,rfl,by show (D.n:Int)=((Ct.zero D.n).n:Int);rw[Ct.zero_n],Ct.zero_ok h1 h2,Ct.zero_res _,rfl,?_,?_,fun i hi=>?_⟩
 ·show (D.runD (fmtL D.n)).dur 1=swB (fmtS D.n) 1
  rw[hd,r1]
 ·show (srS ((D.runD (fmtL D.n)).dur 0) 0).gen<1
  rw[hd,r0]
  unfold q0g
  rw[(q8n (qkx 0)).1]
  decide
 ·have hi':i<areaN D.n:=by
   have:(Pl.fresh D.n).C.n=D.n:=Ct.zero_n _
   rwa [this] at hi
  show (D.runD (fmtL D.n)).dur (areaAt (Ct.zero D.n).n 1+i)=blkL (cntH (Ct.zero D.n).n 1 i) _
  rw[Ct.zero_n,hd,r2 i hi']
theorem qda {D:DM}{P:Pl}(h:P.ok){S0:Sp}{C0:Ct}(hs:Sound D P S0 C0) :
  D.runE P.steps=0∧Sound (D.runD P.steps) P.done P.sup P.C∧(D.runD P.steps).steps=D.steps+(P.new.length+areaN P.C.n+3)∧
   (∀a b,a<P.C.n→P.L a=some b→¬P.C.get (a:Int)=0→(D.runD P.steps).dur a=b.out a P.g)∧(∀s,P.C.first≤s→(∀x,(s,x)∉P.new)→(D.runD P.steps).dur s=D.dur s):=by
 have hn:=h.c.1
 have hsl:=qf6 P.g
 have hsl0:=qf6 P.S.gen
 have hgm:(P.S.gen % 2).toNat≠(P.g % 2).toNat:=by unfold Pl.g;omega
 obtain⟨e0,e1,e2,e3,e4⟩:=qgt hs.free (l:=P.steps) (fun a ha=>by rw[hs.n];exact Pl.steps_ok h a ha)
 rw[Pl.steps_len] at e3
 have hcd:=fun s=>qnr P.blocks (P.g % 2).toNat (swB P.sup (P.g % 2)) D.mem s
 have hc:∀s,(D.runD P.steps).cac s=[]:=fun s=>by rw[←ql6,e4];exact (hcd s).1
 have hd:∀s,(D.runD P.steps).dur s=if s=(P.g % 2).toNat then swB P.sup (P.g % 2) else lastW s P.blocks (D.dur s):=fun s=>by
  have h3:=(hcd s).2
  rw[q9l (hs.set_ s)] at h3
  rw[←qre,e4]
  exact h3
 have H0:=hs.holds
 have hfirst:∀{s:Nat},P.C.first≤s→s≠(P.g % 2).toNat:=fun {s} hf=>by unfold Ct.first at hf;omega
 refine⟨e0,⟨e1,e2.trans hs.n,hc,?_⟩,e3,fun a b ha hL hg=>?_,fun s hf hnn=>?_⟩
 ·refine⟨h.supMay,rfl,h.sec,h.c,h.res,rfl,?_,?_,fun i hi=>?_⟩
  ·show (D.runD P.steps).dur (P.g % 2).toNat=swB P.sup (P.g % 2)
   rw[hd,if_pos rfl]
  ·show (srS ((D.runD P.steps).dur ((P.g+1) % 2).toNat) ((P.g+1) % 2)).gen<P.g
   have e:(P.g+1) % 2=P.S.gen % 2:=by unfold Pl.g;omega
   rw[e,hd,if_neg hgm,q18 (Pl.slot_spare h (by omega)),H0.slot]
   have hok:swOk S0 (P.S.gen % 2)=true:=by unfold swOk;rw[H0.may,Bool.true_and];exact decide_eq_true ⟨by omega,by omega⟩
   rw[(qa1 hok).2,H0.gen]
   unfold Pl.g
   omega
  ·have hi':i<areaN P.C.n:=hi
   have:=q1i hn.1 hn.2 P.g hi'
   show (D.runD P.steps).dur (areaAt P.C.n P.g+i)=blkL (cntH P.C.n P.g i) (P.C.body (i:Int))
   rw[hd,if_neg (by omega),Pl.blocks_area h hi']
 ·have hm:(a,b.out a P.g)∈P.new:=q8o.2 ⟨ha,b,hL,hg,rfl⟩
  rw[hd,if_neg (hfirst (q8p h hm).2),Pl.blocks_new h ha hL hg]
 ·have hin:s<areaAt P.C.n P.g∨areaAt P.C.n P.g+areaN P.C.n≤s:=by
   right
   unfold Ct.first at hf
   unfold areaAt
   rcases (show (P.g % 2).toNat=0∨(P.g % 2).toNat=1 by omega) with e|e<;>rw[e]<;>omega
  rw[hd,if_neg (hfirst hf),q18 (Pl.blocks_spare h hnn hin)]
theorem q4m {D:DM}{P:Pl}{S0:Sp}{C0:Ct}(hs:Sound D P S0 C0):mtE D.newest false D.n=0∧mtS D.newest=S0∧mtC D.newest D.n P.S.gen=C0.commit:=by
 have H:=hs.holds
 have hnw:∀s,D.newest s=D.dur s:=fun s=>by unfold DM.newest;rw[hs.set_];rfl
 have h3:=qrb (S:=S0) H.may (C:=C0) H.c H.res (by rw[H.n];exact H.sec) (f:=D.newest) (by rw[H.gen,hnw];exact H.slot) (by rw[H.gen,hnw];exact H.other)
  (fun i hi=>by rw[H.n] at hi ⊢;rw[H.gen,hnw];exact H.area i hi)
 rw[H.n,H.gen] at h3
 rw[hs.n]
 exact h3
def Pl.lay (P:Pl)(b:Bk):Pl:=match P.C.pick with
 |some a=>⟨P.S,P.C.alloc,upd P.L a (some b)⟩
 |none=>P
theorem q3s {P:Pl}{a:Nat}(h:P.C.pick=some a)(b:Bk):P.lay b=⟨P.S,P.C.alloc,upd P.L a (some b)⟩:=by unfold Pl.lay;rw[h]
theorem ql7 {P:Pl}(h:P.ok){b:Bk}(hb:b.fine):(P.lay b).ok:=by
 cases hp:P.C.pick with
 |none=>
  have:P.lay b=P:=by unfold Pl.lay;rw[hp]
  rw[this];exact h
 |some a=>
  rw[q3s hp]
  refine⟨Ct.alloc_ok h.c,Ct.alloc_res h.res,h.may,by show P.S.sectors=(P.C.alloc.n:Int);rw[Ct.alloc_n];exact h.sec,h.gen,fun c d hc=>?_⟩
  replace hc:upd P.L a (some b) c=some d:=hc
  by_cases e:c=a
  ·subst e
   rw[q0a] at hc
   injection hc with hc
   exact hc▸hb
  ·rw[q05 _ _ e] at hc
   exact h.fine c d hc
theorem qim {P:Pl}(b:Bk):(P.lay b).C.n=P.C.n:=by
 unfold Pl.lay
 split
 ·exact P.C.alloc_n
 ·rfl
theorem ql8 {P:Pl}(b:Bk):(P.lay b).S=P.S:=by
 unfold Pl.lay
 split<;>rfl
theorem ql9 {D:DM}{P:Pl}{S0:Sp}{C0:Ct}(h:Sound D P S0 C0)(b:Bk):Sound D (P.lay b) S0 C0:=by
 have e1:=qim (P:=P) b
 have e2:=ql8 (P:=P) b
 refine⟨h.free,h.n.trans e1.symm,h.set_,?_⟩
 have H:=h.holds
 exact⟨H.may,by rw[e2];exact H.gen,by rw[e1];exact H.sec,H.c,H.res,by rw[e1];exact H.n,by rw[e2];exact H.slot,by rw[e2];exact H.other,by rw[e1,e2];exact H.area⟩
theorem qrf {P:Pl}{a:Nat}(h:P.C.pick=some a)(b:Bk)(c:Nat)(hc:c<P.C.n):(P.lay b).C.get (c:Int)=if c=a then 1 else P.C.get (c:Int):=by
 rw[q3s h]
 show P.C.alloc.get (c:Int)=_
 rw[(Ct.alloc_some h).2.2]
 unfold Ct.get
 rw[C_put_n_get hc,q8j P.C a 1 c hc]
 by_cases e:c=a
 ·rw[if_pos e,if_pos e]
 ·rw[if_neg e,if_neg e,if_pos (show 0≤(c:Int)∧(c:Int)<(P.C.n:Int) by omega),Int.toNat_natCast]
 where
 C_put_n_get {C:Ct} {k:Nat} {x:Int} {c:Nat} (hc:c<C.n):(if 0≤(c:Int)∧(c:Int)<((C.put k x).n:Int) then nm (C.put k x).now (c:Int).toNat else 0)=nm (C.put k x).now c:=by
  rw[C.put_n,if_pos ⟨by omega,by omega⟩,Int.toNat_natCast]
theorem qt6 {P:Pl}{a:Nat}(h:P.C.pick=some a)(b:Bk)(c:Nat):(P.lay b).L c=if c=a then some b else P.L c:=by
 rw[q3s h]
 rfl
theorem qgu (w:World):QRow (w.alloc (.cells #[] 30)) w.heap.size (some ⟨w.heap.size,0,none⟩) 0 0 []:=⟨[],qe1 w _ _,rfl,fun j r x hr=>by simp at hr⟩
theorem q8r {w:World}{ops:Array Oper}{rest:List Oper}{o:Oper}{a:Act}{Q:Exit→Act→World→Prop}(hgd:o.guard=none)(so x:Operand)
  (ho:o.op=.call { callee:=.builtin .append,args:=#[so,x],argTypes:=#[67,67] })
  (base:Nat) (A:Option Addr) (n c:Nat) (ls:List (List UInt8)) (hs:a.eval so=.slice A n c) (hown:QRow w base A n c ls)
  (B:Option Addr) (d:Nat) (V:Option Addr) (p q:Nat) (l:List UInt8) (hx:a.eval x=.slice B 1 d) (hr:Sls w 1 B 1 d [[.slice V p q]]) (hv:Sl w V p q l) (hva:∀g,q02 V=some g→base≤g∧g<w.heap.size∧q02 A≠some g) (hn:n≤1000) (hbase:base≤w.heap.size)
  (h:∀A' c' w',QRow w' base A' (n+1) c' (ls++[l])→Turn (fun k=>q02 A=some k) w w'→wpList Tryz.prog ops Q rest (a.put o.dst (.slice A' (n+1) c')) w'):wpList Tryz.prog ops Q (o::rest) a w:=by
 obtain⟨raw,h1,h2,h3⟩:=hown
 have hlen:=h1.len (by omega)
 refine q3u _ TPart hgd so x ho base A n c raw hs h1 B 1 d _ hx hr (by omega) (by
  intro y hy u hu
  obtain rfl:y=[.slice V p q]:=by simpa using hy
  obtain rfl:u=.slice V p q:=by simpa using hu
  rfl) (by omega) (by omega) hbase ?_
 intro A' c' w' g1 T g2 g3
 refine h A' c' w' ⟨_,g1,by simp[h2],fun j r y hr' hy=>?_⟩ T
 have hA':∀g,g<w.heap.size→q02 A≠some g→q02 A'≠some g:=fun g hg hne e=>by
  rcases g2 with g2|g2
  ·exact hne (g2▸e)
  ·rw[g2] at e
   injection e with e
   omega
 have hz:=T.size
 by_cases hj:j<ls.length
 ·rw[List.getElem?_append_left (by omega)] at hr'
  rw[List.getElem?_append_left hj] at hy
  obtain⟨V',p',q',e,hsl,hne⟩:=h3 j r y hr' hy
  exact⟨V',p',q',e,hsl.turned T fun k hk=>(hne k hk).2.2,fun g hg=>⟨(hne g hg).1,by have:=(hne g hg).2.1;omega,hA' g (hne g hg).2.1 (hne g hg).2.2⟩⟩
 ·have hj2:j=ls.length:=by
   have:=(List.getElem?_eq_some_iff.1 hy).1
   rw[List.length_append] at this
   simp at this
   omega
  subst hj2
  rw[←h2,List.getElem?_append_right (Nat.le_refl _),Nat.sub_self] at hr'
  rw[List.getElem?_append_right (Nat.le_refl _),Nat.sub_self] at hy
  obtain rfl:[.slice V p q]=r:=by simpa using hr'
  obtain rfl:l=y:=by simpa using hy
  exact⟨V,p,q,rfl,hv.turned T fun k hk=>(hva k hk).2.2,fun g hg=>⟨(hva g hg).1,by have:=(hva g hg).2.1;omega,hA' g (hva g hg).2.1 (hva g hg).2.2⟩⟩
theorem QRow.blockLt {w:World}{base n c:Nat}{A:Option Addr}{ls:List (List UInt8)}(h:QRow w base A n c ls):∀k,q02 A=some k→base≤k∧k<w.heap.size:=h.prow.blockLt
theorem qf7 (C:Ct)(g:Int)(j:Nat):(List.range (j+1)).map (fun (i:Nat)=>blkL (cntH C.n g i) (C.body (i:Int)))=(List.range j).map (fun (i:Nat)=>blkL (cntH C.n g i) (C.body (i:Int)))++[blkL (cntH C.n g j) (C.body (j:Int))]:=by
 rw[List.range_succ,List.map_append];rfl
theorem q8s {w:World}{p:Nat}{S:Nat→Prop}{C:Ct}(H:RC w p S C)(g:Int)(hg:genOk g) :
  Calls Tryz.prog 70 #[.pointer (some ⟨p,0,none⟩),.int .i64 g] w fun e w'=>∃A n c,e=.returned (.tuple #[.int .i64 (areaAt C.n g:Int),.slice A n c])∧QRow w' w.heap.size A n c (areaL C g)∧Below w.heap.size w w':=by
 have hok:=H.ok.1
 obtain⟨ar,hm⟩:∃m,areaN C.n=m:=⟨_,rfl⟩
 have har:ar≤18:=by unfold areaN at hm;omega
 obtain⟨t,ht⟩:∃t,(g % 2).toNat=t:=⟨_,rfl⟩
 have ht2:t<2:=by omega
 have hg1:=hg.1
 have hg2:=hg.2
 have htm:g.tmod 2=(t:Int):=by rw[Int.tmod_eq_emod_of_nonneg (by omega)];omega
 obtain⟨u,hu⟩:∃u,ar*t=u:=⟨_,rfl⟩
 have hu2:u≤18:=by rw[←hu];rcases (show t=0∨t=1 by omega) with e|e<;>rw[e]<;>omega
 have hmul:(ar:Int)*(t:Int)=(u:Int):=by rw[←hu];exact (Int.natCast_mul ar t).symm
 obtain⟨a,ha⟩:∃a,2+u=a:=⟨_,rfl⟩
 have ha2:(2:Int)+(u:Int)=(a:Int):=by omega
 have ha3:a≤20:=by omega
 have Hat:=Lib.hid (show areaAt C.n g=a by unfold areaAt;rw[hm,ht,hu,ha])
 have Hm:=Lib.hid hm
 have HG:=Lib.hid hg
 obtain⟨gg,cg,b,cb,c0,c1,k1,k2,hnow,hdone,hput⟩:=H.open_
 clear hnow hdone hput c1 k2 hm ht hu ha hg
 go_enter Tryz.func70,Tryz.ntmps70
 go_wp2_with fail
 refine (q1g (C.n:Int) C.n rfl (by omega) ar Hm.out w).mono ?_
 rintro e w1 ⟨rfl,rfl⟩
 have P0:=qgu w
 have B0:Below w.heap.size w (w.alloc (.cells #[] 30)):=blA
 go_wp2_with fail
 generalize w.alloc (.cells #[] 30)=w1 at P0 B0 ⊢
 go_loopw [9,10,11,12] (fun l i _ _ wr=>∃(j:Nat) (A':Option Addr) (c':Nat),j≤ar∧i=.int .i64 (j:Int)∧l=.slice A' j c'∧QRow wr w.heap.size A' j c' ((List.range j).map fun (i:Nat)=>blkL (cntH C.n g i) (C.body (i:Int)))∧Below w.heap.size w wr) (fun _ i _ _ _=>ar-(intOf i).toNat)
 case atStart=>exact⟨0,_,_,Nat.zero_le _,rfl,rfl,P0,B0⟩
 case round=>
  clear P0 B0
  obtain⟨j,A',c',hj,rfl,rfl,P,B⟩:=hrel
  by_cases hlt:j<ar
  ·have e3:(j:Int)<(ar:Int):=by omega
   have Hr:=H.below B
   obtain⟨s,hs⟩:∃s,a+j=s:=⟨_,rfl⟩
   have hs2:(a:Int)+(j:Int)=(s:Int):=by omega
   have hs3:s≤100:=by omega
   have hcn:cntH C.n g j=⟨2,(s:Int),0,0,g⟩:=by unfold cntH;rw[Hat.out,hs]
   have hko:=qf5 hok.1 hok.2 HG.out (i:=j) (by rw[Hm.out];exact hlt)
   have hbl:=Ct.body_len (C:=C) (i:=j) (by rw[Hm.out];exact hlt)
   have hsb:sealB ⟨2,(s:Int),0,0,g⟩ (C.body (j:Int))=blkL (cntH C.n g j) (C.body (j:Int)):=by
    rw[←hcn];unfold sealB;rw[if_pos hko,if_pos (by rw[hbl];exact Nat.le_refl _)]
   have Hsb:=Lib.hid hsb
   have hnx:=Lib.hid (qf7 C g j)
   have hpl:=Lib.hid P.blockLt
   clear hs hcn hko hbl hsb
   go_wp2_with fail
   refine (qcs Hr (j:Int)).mono ?_
   rintro e w3 ⟨V,q3,c3,rfl,hv,B3⟩
   have P3:=P.below B3
   have B3':=B.trans (B3.mono B.size)
   clear P B
   go_wp2_with fail
   refine (q2w ⟨2,(s:Int),0,0,g⟩ V q3 c3 _ w3 hv).mono ?_
   rw[Hsb.out]
   rintro e w4 ⟨V4,q4,c4,rfl,own4,B4⟩
   have P4:=P3.below B4
   have B4':=B3'.trans (B4.mono B3'.size)
   have z3:=B3.size
   have z3':=B3'.size
   have z4:=B4.size
   have hblk:=own4.block
   have hva:∀k,q02 V4=some k→w.heap.size≤k∧k<w4.heap.size∧q02 A'≠some k:=fun k hk=>by
    cases V4 with
    |none=>cases hk
    |some ad=>
     obtain rfl:ad.block=k:=Option.some.inj hk
     obtain⟨b1,b2⟩:=hblk ad rfl
     exact⟨by omega,b2,fun e=>by have:=(hpl.out _ e).2;omega⟩
   have Hva:=Lib.hid hva
   have Bl:Below w4.heap.size w4 (w4.alloc (.cells #[.slice V4 q4 c4] 30)):=blA
   have s6:=(q2a w4 30 1 [.slice V4 q4 c4] #[.slice V4 q4 c4] rfl rfl).sls (by omega)
   have P6:=P4.below Bl
   have v6:=own4.sl.below Bl
   have z6:(w4.alloc (.cells #[.slice V4 q4 c4] 30)).heap.size=w4.heap.size+1:=by simp
   have Hown:=Lib.hid own4
   clear P3 P4 B3 B4 hv hblk hva own4
   generalize sealE ⟨2,(s:Int),0,0,g⟩ (C.body (j:Int))=E
   go_wp2_with (first
    |(at_builtin;refine q8r rfl _ _ rfl w.heap.size A' j c' _ rfl P6 _ _ V4 q4 c4 _ rfl s6 v6 (fun k hk=>⟨(Hva.out k hk).1,by have:=(Hva.out k hk).2.1;omega,(Hva.out k hk).2.2⟩) (by omega) (by omega) ?_)
    |fail)
   intro A7 c7 w7 P7 T7
   rw[←hnx.out] at P7
   have B7:Below w.heap.size w w7:=(B4'.trans (Bl.mono B4'.size)).trans (T7.below (fun k hk=>(hpl.out k hk).1) (by omega))
   clear T7 P6 v6 s6 Bl
   go_wp2_with fail
   exact⟨⟨j+1,A7,c7,by omega,by go_num,rfl,P7,B7⟩,by simp[intOf];omega⟩
  ·have hja:j=ar:=by omega
   subst hja
   have e3:¬(j:Int)<(j:Int):=by omega
   have hal:(List.range j).map (fun (i:Nat)=>blkL (cntH C.n g i) (C.body (i:Int)))=areaL C g:=by unfold areaL;rw[Hm.out]
   rw[hal] at P
   go_wp2
   go_ret2
   rw[Hat.out]
   exact⟨_,_,_,rfl,P,B⟩
def Agree (w w':World)(T:Nat→Prop):Prop:=w.heap.size≤w'.heap.size∧∀k,k<w.heap.size→T k→w'.heap[k]?=w.heap[k]?
theorem Agree.refl (w:World)(T:Nat→Prop):Agree w w T:=⟨Nat.le_refl _,fun _ _ _=>rfl⟩
theorem Agree.trans {w w1 w2:World}{T:Nat→Prop}(h:Agree w w1 T)(k:Agree w1 w2 T):Agree w w2 T:=
 ⟨Nat.le_trans h.1 k.1,fun j hj hT=>(k.2 j (Nat.lt_of_lt_of_le hj h.1) hT).trans (h.2 j hj hT)⟩
theorem Agree.mono {w w':World}{T T':Nat→Prop}(h:Agree w w' T)(hT:∀k,T' k→T k):Agree w w' T':=⟨h.1,fun k hk ht=>h.2 k hk (hT k ht)⟩
theorem Turn.agree {S:Nat→Prop}{w w':World}(h:Turn S w w'){T:Nat→Prop}(hT:∀k,T k→¬S k):Agree w w' T:=⟨h.size,fun k hk ht=>h.block k hk (hT k ht)⟩
theorem q5h {w w':World}(h:Below w.heap.size w w')(T:Nat→Prop):Agree w w' T:=⟨h.size,fun k hk _=>h.block k hk⟩
def Stay (w:World)(T:Nat→Prop)(F:World→Prop):Prop:=∀w',Agree w w' T→F w'
theorem Stay.now {w:World}{T:Nat→Prop}{F:World→Prop}(h:Stay w T F):F w:=h w (Agree.refl _ _)
theorem Stay.on {w w':World}{T:Nat→Prop}{F:World→Prop}(h:Stay w T F)(a:Agree w w' T):Stay w' T F:=fun _ b=>h _ (a.trans b)
theorem Stay.mono {w:World}{T T':Nat→Prop}{F:World→Prop}(h:Stay w T F)(hT:∀k,T k→T' k):Stay w T' F:=fun _ b=>h _ (b.mono hT)
theorem Stay.and {w:World}{T:Nat→Prop}{F G:World→Prop}(h:Stay w T F)(k:Stay w T G):Stay w T fun w=>F w∧G w:=fun _ b=>⟨h _ b,k _ b⟩
theorem qrg {w:World}{A:Option Addr}{n c:Nat}{l:List UInt8}(h:Sl w A n c l){T:Nat→Prop}(hA:0<n→∀ad,A=some ad→T ad.block):Stay w T fun w=>Sl w A n c l:=fun w' b=>
 ⟨h.1,h.2.1,h.2.2.1,fun j u hu=>by
  obtain⟨ad,e,hb,hc⟩:=h.2.2.2 j u hu
  have hn:0<n:=by
   have h1:=h.len
   have h2:j<(l.map bv).length:=(List.getElem?_eq_some_iff.1 hu).1
   rw[List.length_map] at h2
   omega
  exact⟨ad,e,Nat.lt_of_lt_of_le hb b.1,(World.cell?_of_block (a:=ad.add j) (by rw[q0n];exact b.2 _ hb (hA hn ad e))).trans hc⟩⟩
def mostN (k:Int):Int:=if k=5 then 128 else if k=6 then 236 else -1
theorem q3d (k:Int)(w:World):Calls Tryz.prog 81 #[.int .i64 k] w fun e w'=>e=.returned (.int .i64 (mostN k))∧w=w':=by
 by_cases h5:k=5
 ·subst h5
  go_enter Tryz.func81,Tryz.ntmps81
  go_wp2
  go_ret
  exact⟨rfl,rfl⟩
 ·by_cases h6:k=6
  ·subst h6
   go_enter Tryz.func81,Tryz.ntmps81
   go_wp2
   go_ret
   exact⟨rfl,rfl⟩
  ·have b5:(k==5)=false:=by simpa using h5
   have b6:(k==6)=false:=by simpa using h6
   have hm:=Lib.hid (show mostN k=-1 by unfold mostN;rw[if_neg h5,if_neg h6])
   go_enter Tryz.func81,Tryz.ntmps81
   go_wp2
   go_ret
   exact⟨by rw[hm.out];rfl,rfl⟩
theorem qpx {s:Nat}:∀(l:List (List Value)) (k:Nat) (v:List Value),k<l.length→(∀x∈l,x.length=s)→v.length=s→(l.set k v).flatten=splice l.flatten (k*s) v
 |[],k,v,h,_,_=>by simp at h
 |u::l,0,v,h,hl,hv=>by
  have hu:u.length=s:=hl u (List.mem_cons_self ..)
  unfold splice
  rw[List.set_cons_zero,List.flatten_cons,List.flatten_cons,Nat.zero_mul,List.take_zero,List.nil_append,Nat.zero_add,hv,←hu,List.drop_left' rfl]
 |u::l,k+1,v,h,hl,hv=>by
  have hu:u.length=s:=hl u (List.mem_cons_self ..)
  rw[List.set_cons_succ,List.flatten_cons,List.flatten_cons,qpx l k v (by simpa using h) (fun x hx=>hl x (List.mem_cons_of_mem _ hx)) hv]
  unfold splice
  rw[show (k+1)*s=u.length+k*s by rw[hu,Nat.add_mul,Nat.one_mul,Nat.add_comm],List.take_length_add_append,Nat.add_assoc,List.drop_length_add_append,List.append_assoc]
theorem qt7 {s:Nat}{l:List (List Value)}(h:∀x∈l,x.length=s){k:Nat}{v:List Value}(hv:v.length=s):∀x∈l.set k v,x.length=s:=fun x hx=>by
 rcases List.mem_or_eq_of_mem_set hx with h1|h1
 ·exact h x h1
 ·rw[h1];exact hv
theorem qdb {w w1:World}{T T':Nat→Prop}{F:World→Prop}(h:Stay w T F)(a:Agree w w1 T)(hT:∀k,k<w.heap.size→T k→T' k):Stay w1 T' F:=
 fun _ b=>h _ ⟨Nat.le_trans a.1 b.1,fun k hk ht=>(b.2 k (Nat.lt_of_lt_of_le hk a.1) (hT k hk ht)).trans (a.2 k hk ht)⟩
def QB (w:World)(T:Nat→Prop)(v:List Value):Option Bk→Prop
 |none=>∃a b c d:Value,v=[.int .i64 0,a,b,c,d]∧a.oneCell'=true∧b.oneCell'=true∧c.oneCell'=true∧d.oneCell'=true
 |some (.node N)=>∃A n c B m e,v=[.int .i64 3,.int .i64 N.lvl,.slice A n c,.slice B m e,.slice none 0 0]∧n≤1000∧m≤1000∧Stay w (fun k=>¬T k) fun w=>Itms w A n c N.items∧Kidl w B m e N.kids
 |some (.bytes k l)=>∃A n c,v=[.int .i64 k,.int .i64 0,.slice none 0 0,.slice none 0 0,.slice A n c]∧Stay w (fun k=>¬T k) fun w=>Sl w A n c l
theorem QB.on {w w':World}{T T':Nat→Prop}{v:List Value}{b:Option Bk}(h:QB w T v b)(a:Agree w w' fun k=>¬T k)(hT:∀k,k<w.heap.size→T' k→T k):QB w' T' v b:=by
 match b,h with
 |none,h=>exact h
 |some (.node N),⟨A,n,c,B,m,e,h1,h2,h3,h4⟩=>exact⟨A,n,c,B,m,e,h1,h2,h3,qdb h4 a fun k hk h h'=>h (hT k hk h')⟩
 |some (.bytes k l),⟨A,n,c,h1,h2⟩=>exact⟨A,n,c,h1,qdb h2 a fun k hk h h'=>h (hT k hk h')⟩
theorem QB.one {w:World}{T:Nat→Prop}{v:List Value}{b:Option Bk}(h:QB w T v b):v.length=5∧∀x∈v,x.oneCell'=true:=by
 match b,h with
 |none,⟨a,b,c,d,h,h1,h2,h3,h4⟩=>subst h;refine⟨rfl,fun x hx=>?_⟩;simp at hx;rcases hx with rfl|rfl|rfl|rfl|rfl<;>first|rfl|assumption
 |some (.node N),⟨A,n,c,B,m,e,h1,_⟩=>subst h1;refine⟨rfl,fun x hx=>?_⟩;simp at hx;rcases hx with rfl|rfl|rfl|rfl|rfl<;>rfl
 |some (.bytes k l),⟨A,n,c,h1,_⟩=>subst h1;refine⟨rfl,fun x hx=>?_⟩;simp at hx;rcases hx with rfl|rfl|rfl|rfl|rfl<;>rfl
def QR (w:World)(g n:Nat)(T:Nat→Prop)(L:Nat→Option Bk):Prop:=∃(vs:List (List Value)) (t:TypeId),w.heap[g]?=some (.cells vs.flatten.toArray t (0,0))∧vs.length=n∧(∀x∈vs,x.length=5)∧∀a v,vs[a]?=some v→QB w T v (L a)
theorem QR.lt {w:World}{g n:Nat}{T:Nat→Prop}{L:Nat→Option Bk}(H:QR w g n T L):g<w.heap.size:=by
 obtain⟨vs,t,h,_⟩:=H
 exact q01 h
theorem QR.on {w w':World}{g n:Nat}{T T':Nat→Prop}{L:Nat→Option Bk}(H:QR w g n T L)(e:w'.heap[g]?=w.heap[g]?)(a:Agree w w' fun k=>¬T k)(hT:∀k,k<w.heap.size→T' k→T k):QR w' g n T' L:=by
 obtain⟨vs,t,h,hn,h5,hb⟩:=H
 exact⟨vs,t,e.trans h,hn,h5,fun k v hv=>(hb k v hv).on a hT⟩
theorem QR.at_ {w:World}{g n:Nat}{T:Nat→Prop}{L:Nat→Option Bk}(H:QR w g n T L){a:Nat}(ha:a<n):∃v,v.length=5∧w.rangeAt g (a*5) v∧QB w T v (L a):=by
 obtain⟨vs,t,h,hn,h5,hb⟩:=H
 have hv:vs[a]?=some (vs[a]'(by omega)):=List.getElem?_eq_getElem _
 refine⟨_,h5 _ (List.getElem_mem _),fun j x hx=>?_,hb a _ hv⟩
 rw[cell_of_row _ _ _ _ _ _ h,List.getElem?_toArray]
 exact q9a h5 a _ hv j x hx
theorem QR.there {w:World}{g n:Nat}{T:Nat→Prop}{L:Nat→Option Bk}(H:QR w g n T L){o k:Nat}(h:o+k≤n*5):w.there g o k:=fun j hj=>by
 obtain⟨vs,t,h1,hn,h5,_⟩:=H
 refine⟨?_,by unfold World.frozen?;rw[h1];simp⟩
 rw[cell_of_row _ _ _ _ _ _ h1,List.getElem?_toArray,List.getElem?_eq_getElem (by rw[q7b h5];omega)]
 rfl
theorem QR.set_ {w w':World}{g n:Nat}{T:Nat→Prop}{L:Nat→Option Bk}(H:QR w g n T L){a:Nat}(ha:a<n){o:Nat}{xs v v':List Value}(hr:w.rangeAt g (a*5) v)(hl:v.length=5)(hv:v'=splice v o xs)(ho:o+xs.length≤5){b:Bk}(hb:QB w T v' (some b))(e:w'=w.setCells g (a*5+o) xs)(hg:T g):QR w' g n T (upd L a (some b)):=by
 obtain⟨vs,t,h,hn,h5,hq⟩:=H
 obtain⟨u,hva⟩:∃u,vs[a]?=some u:=⟨_,List.getElem?_eq_getElem (by omega)⟩
 have hu5:u.length=5:=h5 u (List.mem_of_getElem? hva)
 have hve:u=v:=by
  refine List.ext_getElem? fun j=>?_
  by_cases hj:j<5
  ·have h1:=hr j (v[j]'(by omega)) (List.getElem?_eq_getElem _)
   rw[cell_of_row _ _ _ _ _ _ h,List.getElem?_toArray] at h1
   have h2:=q9a h5 a u hva j (u[j]'(by omega)) (List.getElem?_eq_getElem _)
   rw[h2] at h1
   rw[List.getElem?_eq_getElem (by omega),h1,List.getElem?_eq_getElem (by omega)]
  ·rw[List.getElem?_eq_none (by omega),List.getElem?_eq_none (by omega)]
 subst hve
 have hv5:v'.length=5:=hb.one.1
 have hfl:=q7b h5
 have h1:=q0h g t xs (a*5+o) w vs.flatten h (by rw[hfl];omega)
 have hsp:splice vs.flatten (a*5+o) xs=(vs.set a v').flatten:=by
  rw[qpx (s:=5) vs a v' (by omega) h5 hv5,hv]
  refine List.ext_getElem? fun j=>?_
  have hin:∀i,i<5→vs.flatten[a*5+i]?=u[i]?:=fun i hi=>by
   rw[q9a h5 a u hva i (u[i]'(by omega)) (List.getElem?_eq_getElem _)]
   exact (List.getElem?_eq_getElem (by omega)).symm
  have hsl:(splice u o xs).length=5:=by rw[←hv];exact hv5
  unfold splice at hsl ⊢
  have t1:(vs.flatten.take (a*5+o)).length=a*5+o:=by rw[List.length_take,hfl];omega
  have t2:(vs.flatten.take (a*5)).length=a*5:=by rw[List.length_take,hfl];omega
  have t3:(u.take o).length=o:=by rw[List.length_take];omega
  by_cases c1:j<a*5
  ·rw[List.getElem?_append_left (by omega),List.getElem?_append_left (by omega),List.getElem?_take_of_lt (by omega),List.getElem?_take_of_lt c1]
  ·obtain⟨i,rfl⟩:∃i,j=a*5+i:=⟨j-a*5,by omega⟩
   rw[List.getElem?_append_right (l₁:=vs.flatten.take (a*5)) (by omega),t2,Nat.add_sub_cancel_left]
   by_cases c2:i<o
   ·rw[List.getElem?_append_left (by omega),List.getElem?_take_of_lt (by omega),List.getElem?_append_left (by omega),List.getElem?_append_left (by omega),List.getElem?_take_of_lt c2]
    exact hin i (by omega)
   ·rw[List.getElem?_append_right (l₁:=vs.flatten.take (a*5+o)) (by omega),t1,show a*5+i-(a*5+o)=i-o by omega]
    by_cases c3:i<5
    ·rw[List.getElem?_append_left (l₁:=u.take o++(xs++u.drop (o+xs.length))) (by omega),List.getElem?_append_right (l₁:=u.take o) (by omega),t3]
     by_cases c4:i-o<xs.length
     ·rw[List.getElem?_append_left c4,List.getElem?_append_left c4]
     ·rw[List.getElem?_append_right (by omega),List.getElem?_append_right (by omega),List.getElem?_drop,List.getElem?_drop,show a*5+o+xs.length+(i-o-xs.length)=a*5+i by omega,show o+xs.length+(i-o-xs.length)=i by omega]
      exact hin i c3
    ·rw[List.getElem?_append_right (l₁:=u.take o++(xs++u.drop (o+xs.length))) (by omega),hsl,List.getElem?_append_right (l₁:=xs) (by omega),List.getElem?_drop,List.getElem?_drop]
     congr 1
     omega
 rw[hsp] at h1
 subst e
 have hz:(w.setCells g (a*5+o) xs).heap.size=w.heap.size:=rq_sz g xs _ w
 have T1:=q0d (S:=fun k=>k=g) rfl xs (a*5+o) w
 have hA:Agree w (w.setCells g (a*5+o) xs) fun k=>¬T k:=⟨by omega,fun k hk h2=>T1.block k hk fun e=>h2 (e▸hg)⟩
 refine⟨_,t,h1,by rw[List.length_set];exact hn,qt7 h5 hv5,fun k u' hu=>?_⟩
 rw[List.getElem?_set] at hu
 by_cases e:a=k
 ·subst e
  rw[if_pos rfl,if_pos (by omega)] at hu
  injection hu with hu
  subst hu
  rw[q0a]
  exact hb.on hA fun _ _ h=>h
 ·rw[if_neg e] at hu
  rw[q05 _ _ (fun h=>e h.symm)]
  exact (hq k u' hu).on hA fun _ _ h=>h
 where
 rq_sz (b:Nat):∀(vs:List Value) (o:Nat) (w:World),(w.setCells b o vs).heap.size=w.heap.size
  |[],_,_=>rfl
  |v::r,o,w=>(rq_sz b r (o+1) (w.setCell ⟨b,o,none⟩ v)).trans (World.size_setCell ..)
theorem RDrv.keep {w w':World}{y:Nat}{S:Nat→Prop}{D:DM}(h:RDrv w y S D)(hk:∀k,k<w.heap.size→S k→w'.heap[k]?=w.heap[k]?):RDrv w' y S D:=by
 obtain⟨ro,oc,iv,vs,L⟩:=h
 exact⟨ro,oc,iv,vs,L.keep hk⟩
theorem RDrv.mono {w:World}{y:Nat}{S S':Nat→Prop}{D:DM}(h:RDrv w y S D)(hk:∀k,k<w.heap.size→S k→S' k):RDrv w y S' D:=by
 obtain⟨ro,oc,iv,vs,L⟩:=h
 exact⟨ro,oc,iv,vs,L.mono hk⟩
theorem RDrv.tight {w:World}{y:Nat}{S:Nat→Prop}{D:DM}(h:RDrv w y S D):RDrv w y (fun k=>S k∧k<w.heap.size) D:=by
 obtain⟨ro,oc,iv,vs,L⟩:=h
 exact⟨ro,oc,iv,vs,L.mono fun k hk h=>⟨h,hk⟩⟩
theorem RDrv.below {w w':World}{y:Nat}{S:Nat→Prop}{D:DM}(h:RDrv w y S D)(hb:Below w.heap.size w w'):RDrv w' y S D:=by
 obtain⟨ro,oc,iv,vs,L⟩:=h
 exact⟨ro,oc,iv,vs,L.keep fun k hk _=>hb.block k hk⟩
theorem RC.tight {w:World}{p:Nat}{S:Nat→Prop}{C:Ct}(h:RC w p S C):RC w p (fun k=>S k∧k<w.heap.size) C:=by
 obtain⟨a,ca,b,cb,t,h1,h2,h3,h4,h5,h6⟩:=h
 exact⟨a,ca,b,cb,t,h1,h2,h3,h4,⟨⟨h5.1,(Array.getElem?_eq_some_iff.1 h1).1⟩,⟨h5.2.1,h2.lt⟩,⟨h5.2.2,h3.lt⟩⟩,h6⟩
def qV (y:Nat)(S:Sp)(c g n:Nat):List Value:=.pointer (some ⟨y,0,none⟩)::(S.vs++[.pointer (some ⟨c,0,none⟩),.slice (some ⟨g,0,none⟩) n n])
theorem qpy (y:Nat)(S:Sp)(c g n:Nat):(qV y S c g n).length=38:=by unfold qV;rw[List.length_cons,List.length_append,S.vs_len];rfl
theorem qpz (y:Nat)(S:Sp)(c g n k:Nat):(qV y S c g n)[36+k]?=[Value.pointer (some ⟨c,0,none⟩),.slice (some ⟨g,0,none⟩) n n][k]?:=by
 unfold qV
 rw[show 36+k=(35+k)+1 by omega,List.getElem?_cons_succ,List.getElem?_append_right (by rw[S.vs_len];omega),S.vs_len,Nat.add_sub_cancel_left]
theorem qt8 (y:Nat)(S:Sp)(c g n:Nat){j:Nat}{x:Value}(h:S.vs[j]?=some x):(qV y S c g n)[1+j]?=some x:=by
 have hj:=(List.getElem?_eq_some_iff.1 h).1
 unfold qV
 rw[Nat.add_comm,List.getElem?_cons_succ,List.getElem?_append_left hj]
 exact h
theorem qt9 (y:Nat)(S S':Sp)(c g n:Nat):splice (qV y S c g n) 1 S'.vs=qV y S' c g n:=by
 unfold splice qV
 rw[S'.vs_len,List.take_succ_cons,List.take_zero]
 show [Value.pointer (some ⟨y,0,none⟩)]++(S'.vs++(List.drop 35 (S.vs++[.pointer (some ⟨c,0,none⟩),.slice (some ⟨g,0,none⟩) n n])))=_
 rw[List.drop_left' S.vs_len]
 rfl
structure RQ (w:World)(q y c g:Nat)(Sc S T:Nat→Prop)(P:Pl):Prop where
 me:∃t,w.heap[q]?=some (.cells (qV y P.S c g P.C.n).toArray t (0,0))
 ct:RC w c Sc P.C
 row:QR w g P.C.n T P.L
 inS:S q∧S g∧∀k,Sc k→S k
 ne:q≠g∧∀k,Sc k→k≠q∧k≠g
 sub:∀k,S k→T k
 fineS:P.S.fine
def RPool (w:World)(q y:Nat)(S T:Nat→Prop)(P:Pl):Prop:=∃c g Sc,RQ w q y c g Sc S T P
section
variable {w w':World}{q y c g:Nat}{Sc S T:Nat→Prop}{P:Pl}
theorem RQ.cell (L:RQ w q y c g Sc S T P){j:Nat}{x:Value}(h:(qV y P.S c g P.C.n)[j]?=some x):w.cell? ⟨q,j,none⟩=some x:=by
 obtain⟨t,h1⟩:=L.me
 rw[cell_of_row _ _ _ _ _ _ h1,List.getElem?_toArray]
 exact h
theorem RQ.c0 (L:RQ w q y c g Sc S T P):w.cell? ⟨q,0,none⟩=some (.pointer (some ⟨y,0,none⟩)):=L.cell rfl
theorem RQ.c36 (L:RQ w q y c g Sc S T P):w.cell? ⟨q,36,none⟩=some (.pointer (some ⟨c,0,none⟩)):=L.cell (by rw[show 36=36+0 from rfl,qpz];rfl)
theorem RQ.c37 (L:RQ w q y c g Sc S T P):w.cell? ⟨q,37,none⟩=some (.slice (some ⟨g,0,none⟩) P.C.n P.C.n):=L.cell (by rw[show 37=36+1 from rfl,qpz];rfl)
theorem RQ.sup (L:RQ w q y c g Sc S T P):w.rangeAt q 1 P.S.vs:=fun _ _ hx=>L.cell (qt8 _ _ _ _ _ hx)
theorem RQ.c1 (L:RQ w q y c g Sc S T P):w.cell? ⟨q,1,none⟩=some (.int .i64 P.S.gen):=L.sup 0 _ rfl
theorem RQ.ld (L:RQ w q y c g Sc S T P):(ldS (.pointer (some ⟨q,1,none⟩))).run Tryz.prog w=.ok (.agg P.S.vs.toArray) w:=
 run_loadAt_mid (P:=Tryz.prog) w q 1 56 P.S.vs _ L.sup Tryz.underlying56 rfl (by rw[P.S.vs_len];kernel_rfl)
theorem RQ.fz (L:RQ w q y c g Sc S T P)(j:Nat):w.frozen? ⟨q,j,none⟩=false:=by
 obtain⟨t,h1⟩:=L.me
 unfold World.frozen?;rw[h1];simp
theorem RQ.there (L:RQ w q y c g Sc S T P){o n:Nat}(h:o+n≤38):w.there q o n:=fun j hj=>by
 refine⟨?_,L.fz _⟩
 obtain⟨t,h1⟩:=L.me
 rw[cell_of_row _ _ _ _ _ _ h1,List.getElem?_toArray,List.getElem?_eq_getElem (by rw[qpy];omega)]
 rfl
theorem RQ.qlt (L:RQ w q y c g Sc S T P):q<w.heap.size:=by
 obtain⟨t,h1⟩:=L.me
 exact q01 h1
theorem RQ.glt (L:RQ w q y c g Sc S T P):g<w.heap.size:=L.row.lt
theorem RQ.on {T':Nat→Prop}(L:RQ w q y c g Sc S T P)(hk:∀k,k<w.heap.size→S k→w'.heap[k]?=w.heap[k]?)(a:Agree w w' fun k=>¬T k)(hT:∀k,k<w.heap.size→T' k→T k)(hS:∀k,S k→T' k):RQ w' q y c g Sc S T' P:=by
 obtain⟨t,h1⟩:=L.me
 exact⟨⟨t,(hk q L.qlt L.inS.1).trans h1⟩,L.ct.keep fun k hk' hs=>hk k hk' (L.inS.2.2 k hs),L.row.on (hk g L.glt L.inS.2.1) a hT,L.inS,L.ne,hS,L.fineS⟩
theorem RQ.below (L:RQ w q y c g Sc S T P)(hb:Below w.heap.size w w'):RQ w' q y c g Sc S T P:=L.on (fun k hk _=>hb.block k hk) (q5h hb _) (fun _ _ h=>h) L.sub
theorem RQ.other (L:RQ w q y c g Sc S T P){S':Nat→Prop}(t:Turn S' w w')(hT:∀k,S' k→T k)(hS:∀k,S' k→¬S k):RQ w' q y c g Sc S T P:=
 L.on (fun k hk hs=>t.block k hk fun h=>hS k h hs) (t.agree fun k hk h=>hk (hT k h)) (fun _ _ h=>h) L.sub
theorem RQ.mono {S' T':Nat→Prop}(L:RQ w q y c g Sc S T P)(hS:∀k,k<w.heap.size→S k→S' k)(hT:∀k,k<w.heap.size→T' k→T k)(hST:∀k,S' k→T' k):RQ w q y c g (fun k=>Sc k∧k<w.heap.size) S' T' P:=
 ⟨L.me,L.ct.tight,L.row.on rfl (Agree.refl _ _) hT,⟨hS q L.qlt L.inS.1,hS g L.glt L.inS.2.1,fun k hk=>hS k hk.2 (L.inS.2.2 k hk.1)⟩,⟨L.ne.1,fun k hk=>L.ne.2 k hk.1⟩,hST,L.fineS⟩
theorem RQ.setC (L:RQ w q y c g Sc S T P){C':Ct}(t:Turn Sc w w')(H:RC w' c Sc C')(hn:C'.n=P.C.n):RQ w' q y c g Sc S T ⟨P.S,C',P.L⟩:=by
 have hq:=t.block q L.qlt fun h=>(L.ne.2 q h).1 rfl
 have hg:=t.block g L.glt fun h=>(L.ne.2 g h).2 rfl
 obtain⟨ty,h1⟩:=L.me
 refine⟨⟨ty,?_⟩,H,?_,L.inS,L.ne,L.sub,L.fineS⟩
 ·show w'.heap[q]?=some (.cells (qV y P.S c g C'.n).toArray ty (0,0))
  rw[hn]
  exact hq.trans h1
 ·show QR w' g C'.n T P.L
  rw[hn]
  exact L.row.on hg (t.agree fun k hk h=>hk (L.sub k (L.inS.2.2 k h))) fun _ _ h=>h
theorem RQ.setL (L:RQ w q y c g Sc S T P){L':Nat→Option Bk}(t:Turn (fun k=>k=g) w w')(H:QR w' g P.C.n T L'):RQ w' q y c g Sc S T ⟨P.S,P.C,L'⟩:=by
 have hq:=t.block q L.qlt L.ne.1
 obtain⟨ty,h1⟩:=L.me
 exact⟨⟨ty,hq.trans h1⟩,L.ct.keep fun k hk hs=>t.block k hk (L.ne.2 k hs).2,H,L.inS,L.ne,L.sub,L.fineS⟩
theorem q5i {ops:Array Oper}{rest:List Oper}{o:Oper}{a:Act}{Q:Exit→Act→World→Prop}(hg:o.guard=none)(x z:Operand)(hop:o.op=Op.store 56 x z)
  (L:RQ w q y c g Sc S T P) (hx:a.eval x=.pointer (some ⟨q,1,none⟩)) (S':Sp) (hf:S'.fine) (hy:a.eval z=.agg S'.vs.toArray)
  (hK:∀w',RQ w' q y c g Sc S T ⟨S',P.C,P.L⟩→Turn (fun k=>k=q) w w'→wpList Tryz.prog ops Q rest (a.put o.dst undef) w'):wpList Tryz.prog ops Q (o::rest) a w:=by
 have ht:w.there q 1 S'.vs.toArray.size:=by rw[List.size_toArray,S'.vs_len];exact L.there (by omega)
 refine wpList_store_mid hg _ x z hop q 1 S'.vs.toArray hx hy ht (by rw[List.size_toArray,S'.vs_len];kernel_rfl) (all_oneCell_toArray S'.one) ?_
 have Tn:=q0d (S:=fun k=>k=q) rfl S'.vs 1 w
 obtain⟨t,h1⟩:=L.me
 have e:=q0h q t S'.vs 1 w _ h1 (by rw[S'.vs_len,qpy];omega)
 rw[qt9] at e
 exact hK _ ⟨⟨t,e⟩,L.ct.keep fun k hk hs=>Tn.block k hk (L.ne.2 k hs).1,L.row.on (Tn.block g L.glt fun h=>L.ne.1 h.symm) (Tn.agree fun k hk h=>hk (h▸L.sub q L.inS.1)) fun _ _ h=>h,L.inS,L.ne,L.sub,hf⟩ Tn
end
theorem RPool.below {w w':World}{q y:Nat}{S T:Nat→Prop}{P:Pl}(h:RPool w q y S T P)(hb:Below w.heap.size w w'):RPool w' q y S T P:=by
 obtain⟨c,g,Sc,L⟩:=h
 exact⟨c,g,Sc,L.below hb⟩
theorem RPool.other {w w':World}{q y:Nat}{S T:Nat→Prop}{P:Pl}(h:RPool w q y S T P){S':Nat→Prop}(t:Turn S' w w')(hT:∀k,S' k→T k)(hS:∀k,S' k→¬S k):RPool w' q y S T P:=by
 obtain⟨c,g,Sc,L⟩:=h
 exact⟨c,g,Sc,L.other t hT hS⟩
theorem RPool.mono {w:World}{q y:Nat}{S T S' T':Nat→Prop}{P:Pl}(h:RPool w q y S T P)(hS:∀k,k<w.heap.size→S k→S' k)(hT:∀k,k<w.heap.size→T' k→T k)(hST:∀k,S' k→T' k):RPool w q y S' T' P:=by
 obtain⟨c,g,Sc,L⟩:=h
 exact⟨c,g,_,L.mono hS hT hST⟩
end Go.Proofs.YtipejjgodnnkaaaGreatDoor
