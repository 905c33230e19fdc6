/- The code's pool: PutNode -/
import Derived.Test.YtipejjgodnnkaaaGreatDoorPm33
import Derived.Test.YtipejjgodnnkaaaGreatDoorPm34
namespace Go.Proofs.YtipejjgodnnkaaaGreatDoor
open Go Go.RowKit Go.Proofs
set_option maxHeartbeats 8000000
set_option maxRecDepth 100000
section
open Go.ChangeMaps (setBlock)
theorem q62 {N:Nd}(hm:N.may=true){a:Nat}{g:Int}(ha:a≤2047)(hg:gen0 g):writeE N (a:Int) g=0∧writeB N (a:Int) g=blkL (N.head (a:Int) g) N.body∧(N.head (a:Int) g).ok=true:=by
 have hE:writeE N (a:Int) g=0:=Classical.byContradiction fun h=>by
  have h2:=(qod hm h).2
  have h3:=hg.1
  have h4:=hg.2
  omega
 refine⟨hE,?_⟩
 unfold writeE at hE
 rw[if_pos hm] at hE
 obtain⟨hok,_,hB⟩:=q6c _ _ hE
 refine⟨?_,hok⟩
 unfold writeB
 rw[if_pos hm,hB]
theorem q63 {N:Nd}(hm:N.may=true):(Bk.node N).good:=⟨fun _ _ ha hg=>(q62 hm ha hg).2.2,qlh hm,fun _ _ ha hg=>(q62 hm ha hg).2.1⟩
def Pl.putNV (P:Pl)(N:Nd):Int:=if N.may=true then P.C.allocV else 0
def Pl.putNE (P:Pl)(N:Nd):Int:=if N.may=true then P.C.allocE else 1
def Pl.putN (P:Pl)(N:Nd):Pl:=if N.may=true then P.lay (.node N) else P
theorem qdr {w0 w:World}{p d:Nat}{S T:Nat→Prop}{P:Pl}(H:Pool w p d S T P)(hT:∀k,T k→k<w.heap.size)(hG:¬T 1)(B0:Below w0.heap.size w0 w)(hS0:∀k,S k→w0.heap.size≤k)(N:Nd)(A:Option Addr)(n c:Nat)(B:Option Addr)(mm dd:Nat)(hI:Itms w0 A n c N.items)(hK:Kidl w0 B mm dd N.kids)(hn:n≤1000)(hm:mm≤1000)(ht:Tab w) :
  Calls Tryz.prog 44 #[.pointer (some ⟨p,0,none⟩),.agg #[.int .i64 N.lvl,.slice A n c,.slice B mm dd]] w fun e w'=>e=.returned (.tuple #[.int .i64 (P.putNV N),.int .i64 (P.putNE N)])∧Pool w' p d S T (P.putN N)∧Turn S w w'∧Tab w':=by
 have hok:=H.ok
 have N1:NB (w.alloc (.cells #[.int .i64 N.lvl,.slice A n c,.slice B mm dd] 29)) w.heap.size N.lvl A n c B mm dd:=NB.new w _ _ _ _ _ _ _ _
 have b1:Below w.heap.size w (w.alloc (.cells #[.int .i64 N.lvl,.slice A n c,.slice B mm dd] 29)):=blA
 have z1:(w.alloc (.cells #[.int .i64 N.lvl,.slice A n c,.slice B mm dd] 29)).heap.size=w.heap.size+1:=by simp
 have hmy:=fun r hr w (hw:Below w0.heap.size w0 w)=>q27 N r hr A n c B mm dd w (hI.below hw) (hK.below hw) hn hm
 have c0:=N1.c0
 have c1:=N1.c1
 have c2:=N1.c2
 have t1:=ht.below b1 ht.1
 have H1:=H.below b1
 have B1:=B0.trans (b1.mono B0.size)
 cases hmay:N.may with
 |false=>
  have e1:P.putNV N=0:=by unfold Pl.putNV;rw[hmay];rfl
  have e2:P.putNE N=1:=by unfold Pl.putNE;rw[hmay];rfl
  have e3:P.putN N=P:=by unfold Pl.putN;rw[hmay];rfl
  rw[e1,e2,e3]
  have Hmy:=Lib.hid (hmy false hmay)
  clear hmay e1 e2 e3 hmy
  go_enter Tryz.func44,Tryz.ntmps44
  go_wp2_with fail
  generalize w.alloc (.cells #[.int .i64 N.lvl,.slice A n c,.slice B mm dd] 29)=w1 at b1 N1 z1 c0 c1 c2 t1 H1 B1 ⊢
  refine (Hmy.out w1 B1).mono ?_
  rintro e w2 ⟨rfl,b2⟩
  go_wp2
  go_ret2
  have BB:=b1.trans (b2.mono (by omega))
  exact⟨rfl,H.below BB,q00 BB,ht.below BB ht.1⟩
 |true=>
  have hgd:=q63 hmay
  have e1:P.putNV N=P.C.allocV:=by unfold Pl.putNV;rw[hmay];rfl
  have e2:P.putNE N=P.C.allocE:=by unfold Pl.putNE;rw[hmay];rfl
  have e3:P.putN N=P.lay (.node N):=by unfold Pl.putN;rw[hmay];rfl
  have hwo:=fun (a:Nat) (ha:a≤2047)=>q62 hmay ha q15
  have Hmy:=Lib.hid (hmy true hmay)
  have Hwo:=Lib.hid hwo
  rw[e1,e2,e3]
  clear hmay hmy hwo e1 e2 e3
  have H0:=H
  obtain⟨m,cur,l,clock,v,Sc,L⟩:=H1
  have hpl:=L.plt
  have hml:=L.mlt
  cases hp:P.C.pick with
  |none=>
   obtain⟨a1,a2,a3⟩:=Ct.alloc_none hp
   have hal:=fun (w2:World) (C2:CCo w2 p 36 Sc P.C)=>q6o C2
   rw[a1,a2,a3] at hal
   rw[a1,a2,q7q hp]
   have hal:=Lib.hid hal
   clear a1 a2 a3 hp
   go_enter Tryz.func44,Tryz.ntmps44
   go_wp2_with fail
   generalize w.alloc (.cells #[.int .i64 N.lvl,.slice A n c,.slice B mm dd] 29)=w1 at b1 N1 z1 c0 c1 c2 t1 B1 L hpl hml ⊢
   refine (Hmy.out w1 B1).mono ?_
   rintro e w2 ⟨rfl,b2⟩
   have L2:=L.below b2
   go_wp2_with fail
   refine (hal.out w2 L2.ct).mono ?_
   rintro e w3 ⟨rfl,C3,T3⟩
   go_wp2
   go_ret2
   have BB:=b1.trans (b2.mono (by omega))
   have X3:Turn S w w3:=(q00 (S:=S) BB).trans (T3.mono L2.inS.2.2) fun k hk=>.inl hk
   exact⟨rfl,⟨m,cur,l,clock,v,Sc,L2.setC T3 C3 rfl (fun _=>Iff.rfl) hok⟩,X3,ht.turned X3 fun h=>hG (L2.sub _ h)⟩
  |some a=>
   obtain⟨a1,a2,a3⟩:=Ct.alloc_some hp
   have han:=(Ct.pick_in hp).1
   have hget0:P.C.get (a:Int)=0:=by unfold Ct.get;rw[if_pos (by omega),Int.toNat_natCast];exact (Ct.pick_in hp).2.2.1
   have hnone:getE (a:Int) l=none:=by rw[L.look a];unfold Pl.live;rw[if_pos hget0];rfl
   have Hnone:=Lib.hid hnone
   have hcn:=hok.c.1
   have hS:=ql8 (P:=P) (.node N)
   have hn2:=qim (P:=P) (.node N)
   have hlok:=ql7 hok hgd.fine
   have hCl:P.C.alloc=(P.lay (.node N)).C:=by rw[q3s hp]
   have hlv:=qbo hp (.node N)
   have hgl:=qh3 hgd L.good
   have hal:=fun (w2:World) (C2:CCo w2 p 36 Sc P.C)=>q6o C2
   rw[a1,a2,hCl] at hal
   rw[a1,a2]
   obtain⟨hs1,hs2,_⟩:=Hwo.out a (by omega)
   have hlen:=hgd.len (a:=a) (g:=0) (by omega) q15
   have hso:(Bk.node N).out a 0=writeB N (a:Int) 0:=rfl
   rw[hso] at hlen
   have Hs1:=Lib.hid hs1
   have Hlen:=Lib.hid hlen
   have hal:=Lib.hid hal
   have Hlv:=Lib.hid hlv
   have Hgl:=Lib.hid hgl
   have Hlok:=Lib.hid hlok
   have HS:=Lib.hid hS
   have Hn:=Lib.hid hn2
   clear a1 a2 a3 hp hCl hS hn2 hlok hlv hgl hs1 hs2 hlen hnone hget0 hso
   go_enter Tryz.func44,Tryz.ntmps44
   go_wp2_with fail
   generalize w.alloc (.cells #[.int .i64 N.lvl,.slice A n c,.slice B mm dd] 29)=w1 at b1 N1 z1 c0 c1 c2 t1 B1 L hpl hml ⊢
   refine (Hmy.out w1 B1).mono ?_
   rintro e w2 ⟨rfl,b2⟩
   have L2:=L.below b2
   go_wp2_with fail
   refine (hal.out w2 L2.ct).mono ?_
   rintro e w3 ⟨rfl,C3,T3⟩
   have z2:=b2.size
   have z3:=T3.size
   have N2:=N1.below b2 (by omega)
   have hp3:=T3.block p L2.plt fun h=>(L2.ne p h).1 rfl
   have hm3:=T3.block m L2.mlt fun h=>(L2.ne m h).2 rfl
   have hSc:∀k,Sc k→w0.heap.size≤k:=fun k hk=>hS0 k (L2.inS.2.2 k hk)
   have B3:=(B1.trans (b2.mono B1.size)).trans (T3.below hSc (by have:=B1.size;omega))
   have hbx:¬Sc w.heap.size:=fun h=>by have:=hT _ (L2.sub _ (L2.inS.2.2 _ h));omega
   have n3:=T3.block w.heap.size N2.lt hbx
   have N3:NB w3 w.heap.size N.lvl A n c B mm dd:=by
    obtain⟨t,h⟩:=N2
    exact⟨t,n3.trans h⟩
   have q40:w3.cell? ⟨p,40,none⟩=some (.map (some m)):=(World.cell?_of_block (a:=⟨p,40,none⟩) hp3).trans L2.c40
   have t3:Tab w3:=(t1.below b2 t1.1).turned T3 fun h=>hG (L2.sub _ (L2.inS.2.2 _ h))
   have hbm:w.heap.size≠m:=fun e=>by have h1:=hT m (L2.sub _ L2.inS.2.1);omega
   have hF:∀w',Below w3.heap.size w3 w'→w'.cell? ⟨p,40,none⟩=some (.map (some m))∧w'.cell? ⟨w.heap.size,0,none⟩=some (.int .i64 N.lvl)∧w'.cell? ⟨w.heap.size,1,none⟩=some (.slice A n c)∧w'.cell? ⟨w.heap.size,2,none⟩=some (.slice B mm dd):=fun w' hb=>
    have N':=N3.below hb N3.lt
    ⟨(hb.cell (p:=⟨p,40,none⟩) (by show p<_;omega)).trans q40,N'.c0,N'.c1,N'.c2⟩
   have hFb:∀w' (o:Obj),Below w3.heap.size w3 w'→(setBlock w' m o).cell? ⟨p,40,none⟩=some (.map (some m))∧(setBlock w' m o).cell? ⟨w.heap.size,0,none⟩=some (.int .i64 N.lvl)∧(setBlock w' m o).cell? ⟨w.heap.size,1,none⟩=some (.slice A n c)∧(setBlock w' m o).cell? ⟨w.heap.size,2,none⟩=some (.slice B mm dd):=fun w' o hb=>by
    have hz:=hb.size
    have TB:Turn (fun k=>k=m) w' (setBlock w' m o):=q0o _ rfl
    obtain⟨h1,h2,h3,h4⟩:=hF w' hb
    have e1:=TB.block p (by omega) L2.p_m
    have e2:=TB.block w.heap.size (by omega) hbm
    exact⟨(World.cell?_of_block (a:=⟨p,40,none⟩) e1).trans h1,(World.cell?_of_block (a:=⟨w.heap.size,0,none⟩) e2).trans h2,(World.cell?_of_block (a:=⟨w.heap.size,1,none⟩) e2).trans h3,(World.cell?_of_block (a:=⟨w.heap.size,2,none⟩) e2).trans h4⟩
   have BD:Below w3.heap.size w3 w3.drew:=(Below.refl _ _).drew
   have Hup:=Lib.hid (fun (w':World) (hb:Below w3.heap.size w3 w') (v':Value)=>(congrArg (fun z:Nat=>Result.ok () (setBlock w' m (.map (putE (a:Int) v' clock l).toArray z))) (if_pos Hnone.out)).subst (motive:=fun r=>(Instr.mapUpdate 108 (.map (some m)) (.int .i64 (a:Int)) v').run Tryz.prog w'=r) (q1r L.ents Tryz.underlying108 Tryz.underlying3 ((hb.block m (by omega)).trans (hm3.trans L2.map)) (a:Int) v'))
   have BI:=B3.trans (BD.mono B3.size)
   go_wp2_with fail
   go_region_held3 (fun w'=>w'.cell? ⟨p,40,none⟩=some (.map (some m))∧w'.cell? ⟨w.heap.size,0,none⟩=some (.int .i64 N.lvl)∧w'.cell? ⟨w.heap.size,1,none⟩=some (.slice A n c)∧w'.cell? ⟨w.heap.size,2,none⟩=some (.slice B mm dd))
    (first|assumption|exact hF _ BD|exact hF _ bb3|exact hFb _ _ bb3)
    (first
     |(go_at_call 104;refine (qa2 N (a:Int) 0 A n c B mm dd _ (hI.below BI) (hK.below BI) hn hm (t3.below BD t3.1)).mono ?_;rw[Hs1.out];rintro e w4 ⟨A3,n3,c3,rfl,own3',hg3,hb3⟩;have bb3:Below w3.heap.size w3 w4:=BD.trans hb3;have hup:=Hup.out w4 bb3)
     |fail)
   obtain⟨q,rfl,rfl,rfl⟩:=hg3 (by first|trivial|rfl)
   have hq:=(own3'.block ⟨q,0,none⟩ rfl).1
   obtain⟨R1,R2⟩:=L2.store (P':=P.lay (.node N)) (b:=.node N) T3 C3 bb3 Hn.out HS.out han Hlv.out Hgl.out Hlok.out own3'.sl (fun h=>by have h1:=hT q h;have h2:w3.drew.heap.size=w3.heap.size:=rfl;have h3:w3.drew.heap.size≤q:=hq;omega)
   rw[if_pos Hnone.out] at R1 R2
   go_wp2
   go_ret2
   have BB:=b1.trans (b2.mono (by omega))
   have X3:=(q00 (S:=S) BB).trans R2 fun k hk=>.inl hk
   exact⟨rfl,R1,X3,ht.turned X3 fun h=>hG (L2.sub _ h)⟩
end
def q6y (M:Nd)(E:Int)(w:World)(e:Ending)(w':World):Prop:=
 ∃A1 n1 c1 B1 m1 d1,e=.returned (.tuple #[.agg #[.int .i64 M.lvl,.slice A1 n1 c1,.slice B1 m1 d1],.int .i64 E])∧n1≤20∧m1≤20∧Itms w' A1 n1 c1 M.items∧Kidl w' B1 m1 d1 M.kids∧Below w.heap.size w w'
def nodeZ:Nd:=⟨0,[],[]⟩
def nodeRE (x:List UInt8)(a o:Int):Int:=if (creadN x a).isSome=true then 0 else o
def nodeRN (x:List UInt8)(a:Int):Nd:=(creadN x a).getD nodeZ
theorem qfg {w:World}{ad:Addr}{cs:Array Value}{t:TypeId}{v:Value}(h:w.heap[ad.block]?=some (.cells cs t (0,0)))(hc:w.cell? ad=some v):cs[ad.off]?=some v:=by
 unfold World.cell? at hc
 rw[h] at hc
 dsimp only at hc
 split at hc
 ·cases hc
 ·exact hc
section
variable {w w':World}{b n c m d:Nat}{l:Int}{A B:Option Addr}
theorem q32 {xs:List (List Value)}{k e:Nat}{C:Option Addr}(R:NB w b l A n c B m d)(X:Turn (fun k=>k=b) w w')(h:Sls w 4 C k e xs):Sls w' 4 C k e xs:=by
 obtain⟨t,R⟩:=R
 refine⟨h.1,h.2.1,h.2.2.1,fun j x hx=>?_⟩
 obtain⟨g,o,hA,hg,hl,hr⟩:=h.2.2.2 j x hx
 have hne:g≠b:=fun e=>by
  subst e
  have h3:=hr 3 _ (List.getElem?_eq_getElem (by omega))
  rw[cell_of_row _ _ _ _ _ _ R,Array.getElem?_eq_none (by show 3≤o+j*4+3;omega)] at h3
  cases h3
 exact⟨g,o,hA,by have:=X.size;omega,hl,fun i v hv=>(World.cell?_of_block (a:=⟨g,_,none⟩) (X.block g hg hne)).trans (hr i v hv)⟩
theorem qos {x:List UInt8}{k e:Nat}{C:Option Addr}(R:NB w b l A n c B m d)(X:Turn (fun k=>k=b) w w')(h:Sl w C k e x):Sl w' C k e x:=by
 obtain⟨t,R⟩:=R
 refine⟨h.1,h.2.1,h.2.2.1,fun j u hu=>?_⟩
 obtain⟨ad,e,hb,hc⟩:=h.2.2.2 j u hu
 have hu2:∃y:UInt8,u=bv y:=by
  rw[List.getElem?_map] at hu
  cases hx:x[j]? with
  |none=>rw[hx] at hu;cases hu
  |some y=>rw[hx] at hu;injection hu with hu;exact⟨y,hu.symm⟩
 have hne:ad.block≠b:=fun e2=>by
  obtain⟨y,rfl⟩:=hu2
  have h1:w.heap[(ad.add j).block]?=some (.cells #[.int .i64 l,.slice A n c,.slice B m d] t (0,0)):=by rw[q0n,e2];exact R
  have h2:=qfg h1 hc
  obtain⟨q,hq⟩:∃q,(ad.add j).off=q:=⟨_,rfl⟩
  rw[hq] at h2
  match q,h2 with
  |0,h2=>injection h2 with h2;cases h2
  |1,h2=>injection h2 with h2;cases h2
  |2,h2=>injection h2 with h2;cases h2
  |q+3,h2=>simp at h2
 exact⟨ad,e,by have:=X.size;omega,(World.cell?_of_block (a:=ad.add j) (by rw[q0n];exact X.block _ hb hne)).trans hc⟩
theorem q2v {xs:List Itm}{k e:Nat}{C:Option Addr}(R:NB w b l A n c B m d)(X:Turn (fun k=>k=b) w w')(h:Itms w C k e xs):Itms w' C k e xs:=by
 obtain⟨raw,h1,h2,h3⟩:=h
 refine⟨raw,q32 R X h1,h2,fun j r x hr hx=>?_⟩
 obtain⟨D,p,q,e,hs⟩:=h3 j r x hr hx
 exact⟨D,p,q,e,qos R X hs⟩
end
theorem qds {w:World}{p:Nat}{a E o:Int}(hE:E≠0)(hblk:∀u,Below w.heap.size w u→Calls Tryz.prog 78 #[.pointer (some ⟨p,0,none⟩),.int .i64 a] u fun e w'=>∃A n c,e=.returned (.tuple #[.slice A n c,.int .i64 o,.int .i64 E])∧Below u.heap.size u w') :
  Calls Tryz.prog 22 #[.pointer (some ⟨p,0,none⟩),.int .i64 a] w fun e w'=>q6y nodeZ E w e w':=by
 have nb:(E==0)=false:=by simpa using hE
 have R1:NB (w.alloc (.cells #[.int .i64 0,.slice none 0 0,.slice none 0 0] 29)) w.heap.size 0 none 0 0 none 0 0:=NB.new w _ _ _ _ _ _ _ _
 have b1:Below w.heap.size w (w.alloc (.cells #[.int .i64 0,.slice none 0 0,.slice none 0 0] 29)):=blA
 have z1:(w.alloc (.cells #[.int .i64 0,.slice none 0 0,.slice none 0 0] 29)).heap.size=w.heap.size+1:=by simp
 have Hblk:=Lib.hid hblk
 clear hblk
 go_enter Tryz.func22,Tryz.ntmps22
 go_wp2_with fail
 generalize w.alloc (.cells #[.int .i64 0,.slice none 0 0,.slice none 0 0] 29)=w1 at b1 R1 z1 ⊢
 refine (Hblk.out w1 b1).mono ?_
 rintro e w2 ⟨A,n,c,rfl,b2⟩
 have R2:=R1.below b2 (by omega)
 go_wp2_with (first
  |(refine q07 rfl _ _ rfl w.heap.size rfl 0 none 0 0 none 0 0 rfl R2 ?_;intro w3 R3 T3)
  |fail)
 refine bodyPost_ret (q0r Tryz.results22 rfl (q0i R3)) rfl ?_
 have z2:=b2.size
 exact⟨none,0,0,none,0,0,rfl,by omega,by omega,q1b _,q1c _,(b1.trans (b2.mono (by omega))).trans (T3.below (fun k hk=>by omega) (by omega))⟩
theorem qa9 {w:World}{p:Nat}{a o:Int}{x:List UInt8}(ht:Tab w)(hblk:∀u,Below w.heap.size w u→Calls Tryz.prog 78 #[.pointer (some ⟨p,0,none⟩),.int .i64 a] u fun e w'=>∃A n c,e=.returned (.tuple #[.slice A n c,.int .i64 o,.int .i64 0])∧Sl w' A n c x∧Below u.heap.size u w') :
  Calls Tryz.prog 22 #[.pointer (some ⟨p,0,none⟩),.int .i64 a] w fun e w'=>q6y (nodeRN x a) (nodeRE x a o) w e w':=by
 have R1:NB (w.alloc (.cells #[.int .i64 0,.slice none 0 0,.slice none 0 0] 29)) w.heap.size 0 none 0 0 none 0 0:=NB.new w _ _ _ _ _ _ _ _
 have b1:Below w.heap.size w (w.alloc (.cells #[.int .i64 0,.slice none 0 0,.slice none 0 0] 29)):=blA
 have z1:(w.alloc (.cells #[.int .i64 0,.slice none 0 0,.slice none 0 0] 29)).heap.size=w.heap.size+1:=by simp
 have t1:=ht.below b1 ht.1
 have Hblk:=Lib.hid hblk
 clear hblk
 cases hr:creadN x a with
 |none=>
  have e1:nodeRN x a=nodeZ:=by unfold nodeRN;rw[hr];rfl
  have e2:nodeRE x a o=o:=by unfold nodeRE;rw[hr];rfl
  rw[e1,e2]
  have hrd:=fun (A:Option Addr) (n c:Nat) (w2:World) (s2:Sl w2 A n c x) (t2:Tab w2)=>qdg A n c x a w2 s2 t2
  unfold q2u at hrd
  rw[hr] at hrd
  have Hrd:=Lib.hid hrd
  clear hrd hr e1 e2
  go_enter Tryz.func22,Tryz.ntmps22
  go_wp2_with fail
  generalize w.alloc (.cells #[.int .i64 0,.slice none 0 0,.slice none 0 0] 29)=w1 at b1 R1 z1 t1 ⊢
  refine (Hblk.out w1 b1).mono ?_
  rintro e w2 ⟨A,n,c,rfl,s2,b2⟩
  have R2:=R1.below b2 (by omega)
  have t2:=t1.below b2 t1.1
  have z2:=b2.size
  go_wp2_with fail
  refine (Hrd.out A n c w2 s2 t2).mono ?_
  rintro e w3 ⟨A1,n1,c1,B1,m1,d1,rfl,hn1,hm1,hI,hK,b3⟩
  have z3:=b3.size
  have R3:=R2.below b3 (by omega)
  have BB:=b1.trans ((b2.trans (b3.mono z2)).mono (by omega))
  go_wp2_with (first
   |(refine q07 rfl (.tmp 4) (.tmp 29) rfl w.heap.size rfl 0 none 0 0 none 0 0 rfl (R3.below (E:=w3.heap.size) (blA) (by omega)) ?_;intro w5 R5 T5)
   |fail)
  refine bodyPost_ret (q0r Tryz.results22 rfl (q0i R5)) rfl ?_
  have b4:Below w3.heap.size w3 (w3.alloc (.cells #[.int .i64 0,.slice A1 n1 c1,.slice B1 m1 d1] 29)):=blA
  exact⟨none,0,0,none,0,0,rfl,by omega,by omega,q1b _,q1c _,(BB.trans (b4.mono BB.size)).trans (T5.below (fun k hk=>by omega) (by have:=BB.size;have:=b4.size;omega))⟩
 |some N=>
  have e1:nodeRN x a=N:=by unfold nodeRN;rw[hr];rfl
  have e2:nodeRE x a o=0:=by unfold nodeRE;rw[hr];rfl
  rw[e1,e2]
  have hrd:=fun (A:Option Addr) (n c:Nat) (w2:World) (s2:Sl w2 A n c x) (t2:Tab w2)=>qdg A n c x a w2 s2 t2
  unfold q2u at hrd
  rw[hr] at hrd
  have Hrd:=Lib.hid hrd
  clear hrd hr e1 e2
  go_enter Tryz.func22,Tryz.ntmps22
  go_wp2_with fail
  generalize w.alloc (.cells #[.int .i64 0,.slice none 0 0,.slice none 0 0] 29)=w1 at b1 R1 z1 t1 ⊢
  refine (Hblk.out w1 b1).mono ?_
  rintro e w2 ⟨A,n,c,rfl,s2,b2⟩
  have R2:=R1.below b2 (by omega)
  have t2:=t1.below b2 t1.1
  have z2:=b2.size
  go_wp2_with fail
  refine (Hrd.out A n c w2 s2 t2).mono ?_
  rintro e w3 ⟨A1,n1,c1,B1,m1,d1,rfl,hn1,hm1,hI,hK,b3⟩
  have hI:Itms w3 A1 n1 c1 N.items:=hI
  have hK:Kidl w3 B1 m1 d1 N.kids:=hK
  have hl:((some N:Option Nd).getD ⟨0,[],[]⟩).lvl=N.lvl:=rfl
  simp only[hl]
  have z3:=b3.size
  have R3:=R2.below b3 (by omega)
  have BB:=b1.trans ((b2.trans (b3.mono z2)).mono (by omega))
  have b4:Below w3.heap.size w3 (w3.alloc (.cells #[.int .i64 N.lvl,.slice A1 n1 c1,.slice B1 m1 d1] 29)):=blA
  go_wp2_with (first
   |(refine q07 rfl (.tmp 4) (.tmp 31) rfl w.heap.size rfl N.lvl A1 n1 c1 B1 m1 d1 rfl (R3.below b4 (by omega)) ?_;intro w5 R5 T5)
   |fail)
  refine bodyPost_ret (q0r Tryz.results22 rfl (q0i R5)) rfl ?_
  have R4:=R3.below b4 (by omega)
  exact⟨A1,n1,c1,B1,m1,d1,rfl,hn1,hm1,q2v R4 T5 (hI.below b4),q32 R4 T5 (hK.below b4),(BB.trans (b4.mono BB.size)).trans (T5.below (fun k hk=>by omega) (by have:=BB.size;have:=b4.size;omega))⟩
def Pl.nodeE (P:Pl)(D:DM)(a:Int):Int:=if P.C.get a=0 then 1 else match P.live a.toNat with
 |some (.node _)=>0
 |some (.bytes _ _)=>1
 |none=>if D.readE a=0 then nodeRE (D.readL a) a 5 else D.readE a
def Pl.nodeN (P:Pl)(D:DM)(a:Int):Nd:=if P.C.get a=0 then nodeZ else match P.live a.toNat with
 |some (.node N)=>N
 |some (.bytes _ _)=>nodeZ
 |none=>if D.readE a=0 then nodeRN (D.readL a) a else nodeZ
theorem q95 {N:Nd}(h:(Bk.node N).good):N.may=true:=by
 cases hm:N.may with
 |true=>rfl
 |false=>
  have h1:=h.len (a:=0) (g:=0) (by omega) q15
  have h2:(Bk.node N).out 0 0=[]:=by show writeB N _ _=[];unfold writeB;rw[if_neg (by rw[hm];decide)]
  rw[h2] at h1
  cases h1
theorem qot {N:Nd}(h:(Bk.node N).good){a:Nat}(ha:a≤2047)(o:Int):nodeRN ((Bk.node N).out a 0) (a:Int)=N∧nodeRE ((Bk.node N).out a 0) (a:Int) o=0:=by
 have hm:=q95 h
 have e:creadN ((Bk.node N).out a 0) (a:Int)=some N:=by
  show creadN (writeB N (a:Int) 0) (a:Int)=some N
  rw[qa4 hm (q62 hm ha q15).1,if_pos rfl]
 unfold nodeRN nodeRE
 rw[e]
 exact⟨rfl,rfl⟩
theorem qm3 {k:Int}{l:List UInt8}(h:(Bk.bytes k l).good)(hk:k=5∨k=6){a:Nat}(ha:a≤2047)(o:Int):nodeRN ((Bk.bytes k l).out a 0) (a:Int)=nodeZ∧nodeRE ((Bk.bytes k l).out a 0) (a:Int) o=o:=by
 obtain⟨h1,h2,h3⟩:=h.opens ha q15
 have e:creadN ((Bk.bytes k l).out a 0) (a:Int)=none:=by
  unfold creadN
  rw[if_pos h3,h1]
  unfold cfin
  split
  ·rw[if_neg]
   rintro⟨e,_⟩
   have e:k=if ((Bk.bytes k l).hd a 0).level=0 then (3:Int) else 4:=e
   split at e<;>omega
  ·rfl
 unfold nodeRN nodeRE
 rw[e]
 exact⟨rfl,rfl⟩
def Bk.kindOk (b:Bk):Prop:=match b with
 |.node _=>True
 |.bytes k l=>∃m,mostK k=some m∧l.length≤m
theorem qm4 {k:Int}{l:List UInt8}(P:Pl)(hP:∀a b,P.L a=some b→b.kindOk){a:Nat}(h:P.live a=some (.bytes k l)):k=5∨k=6:=by
 obtain⟨m,hm,_⟩:=hP a _ (qbq h).2
 exact (q0p hm).1
theorem q96 {w:World}{p d:Nat}{S0 S T:Nat→Prop}{D:DM}{P:Pl}(L0:Drv w d S0 D)(H:Pool w p d S T P)(hP:∀a b,P.L a=some b→b.kindOk)(ht:Tab w)(a:Int) :
  Calls Tryz.prog 22 #[.pointer (some ⟨p,0,none⟩),.int .i64 a] w fun e w'=>q6y (P.nodeN D a) (P.nodeE D a) w e w':=by
 by_cases h0:P.C.get a=0
 ·have e1:P.nodeE D a=1:=if_pos h0
  have e2:P.nodeN D a=nodeZ:=if_pos h0
  rw[e1,e2]
  exact qds (o:=0) (by omega) fun u hu=>(qh4 (H.below hu) a h0).mono fun e w' h=>⟨_,_,_,h.1,by rw[←h.2];exact Below.refl _ _⟩
 ·obtain⟨n,rfl,hn⟩:=q6w h0
  have hnn:n≤2047:=by have:=H.ok.c.1;omega
  have eE:P.nodeE D (n:Int)=match P.live n with
    |some (.node _)=>0
    |some (.bytes _ _)=>1
    |none=>if D.readE (n:Int)=0 then nodeRE (D.readL (n:Int)) (n:Int) 5 else D.readE (n:Int):=by unfold Pl.nodeE;rw[if_neg h0,Int.toNat_natCast]
  have eN:P.nodeN D (n:Int)=match P.live n with
    |some (.node N)=>N
    |some (.bytes _ _)=>nodeZ
    |none=>if D.readE (n:Int)=0 then nodeRN (D.readL (n:Int)) (n:Int) else nodeZ:=by unfold Pl.nodeN;rw[if_neg h0,Int.toNat_natCast]
  rw[eE,eN]
  cases hv:P.live n with
  |some b=>
   have hg:b.good:=by
    obtain⟨m,cur,l,clock,v,Sc,L⟩:=H
    exact L.good n b (qbq hv).2
   have hr:=qa9 (w:=w) (p:=p) (a:=(n:Int)) (o:=1) (x:=b.out n 0) ht fun u hu=>qa8 (H.below hu) n b hv
   cases b with
   |node N=>
    obtain⟨e1,e2⟩:=qot hg hnn 1
    rw[e1,e2] at hr
    exact hr
   |bytes k l=>
    obtain⟨e1,e2⟩:=qm3 hg (qm4 P hP hv) hnn 1
    rw[e1,e2] at hr
    exact hr
  |none=>
   by_cases hr:D.readE (n:Int)=0
   ·have hq:=qa9 (w:=w) (p:=p) (a:=(n:Int)) (o:=5) (x:=D.readL (n:Int)) ht fun u hu=>by
     have hb:=q5j (L0.below hu) (H.below hu) n h0 hv
     rw[hr] at hb
     exact hb
    simp only[if_pos hr]
    exact hq
   ·simp only[if_neg hr]
    exact qds (o:=5) hr fun u hu=>(q5j (L0.below hu) (H.below hu) n h0 hv).mono fun e w' h=>by
     obtain⟨A,m,c,he,_,hb⟩:=h
     exact⟨A,m,c,he,hb⟩
section
open Go.ChangeMaps (setBlock)
def isNode:Option Bk→Bool
 |some (.node _)=>true
 |_=>false
def Pl.setNB (P:Pl)(a:Int)(N:Nd):Bool:=N.may&&(P.C.fresh a&&isNode (P.L a.toNat))
def Pl.setNE (P:Pl)(a:Int)(N:Nd):Int:=if P.setNB a N=true then 0 else 1
def Pl.setN (P:Pl)(a:Int)(N:Nd):Pl:=if P.setNB a N=true then ⟨P.S,P.C,upd P.L a.toNat (some (.node N))⟩ else P
theorem qdt {C:Ct}{a:Int}(h:C.fresh a=true):C.get a≠0:=fun h0=>by
 unfold Ct.fresh at h
 rw[if_pos h0] at h
 cases h
def bkE:Bk→Int
 |.node _=>0
 |.bytes _ _=>1
theorem qou {P:Pl}(D:DM){k:Nat}(h0:P.C.get (k:Int)≠0){b:Bk}(h:P.live k=some b):P.nodeE D (k:Int)=bkE b:=by
 unfold Pl.nodeE
 rw[if_neg h0,Int.toNat_natCast,h]
 cases b<;>rfl
theorem qdu {w0 w:World}{p d:Nat}{S0 S T:Nat→Prop}{D:DM}{P:Pl}(L0:Drv w d S0 D)(H:Pool w p d S T P)(hkd:∀a b,P.L a=some b→b.kindOk)(hfr:∀a:Nat,P.C.fresh (a:Int)=true→∃b,P.L a=some b)(hT:∀k,T k→k<w.heap.size)(_hG:¬T 1)(B0:Below w0.heap.size w0 w)(_hS0:∀k,S k→w0.heap.size≤k)(a:Int)(N:Nd)(A:Option Addr)(n c:Nat)(B:Option Addr)(mm dd:Nat)(hI:Itms w0 A n c N.items)(hK:Kidl w0 B mm dd N.kids)(hn:n≤1000)(hm:mm≤1000)(ht:Tab w) :
  Calls Tryz.prog 47 #[.pointer (some ⟨p,0,none⟩),.int .i64 a,.agg #[.int .i64 N.lvl,.slice A n c,.slice B mm dd]] w fun e w'=>e=.returned (.int .i64 (P.setNE a N))∧Pool w' p d S T (P.setN a N)∧Turn S w w':=by
 have hok:=H.ok
 have N1:NB (w.alloc (.cells #[.int .i64 N.lvl,.slice A n c,.slice B mm dd] 29)) w.heap.size N.lvl A n c B mm dd:=NB.new w _ _ _ _ _ _ _ _
 have b1:Below w.heap.size w (w.alloc (.cells #[.int .i64 N.lvl,.slice A n c,.slice B mm dd] 29)):=blA
 have z1:(w.alloc (.cells #[.int .i64 N.lvl,.slice A n c,.slice B mm dd] 29)).heap.size=w.heap.size+1:=by simp
 obtain⟨r,hr⟩:∃r,N.may=r:=⟨_,rfl⟩
 obtain⟨f,hf⟩:∃f,P.C.fresh a=f:=⟨_,rfl⟩
 have Hmy:=Lib.hid (fun w (hw:Below w0.heap.size w0 w)=>q27 N r hr A n c B mm dd w (hI.below hw) (hK.below hw) hn hm)
 have Hfr:=Lib.hid (fun (w1:World) (H1:Pool w1 p d S T P)=>qj0 H1 a f hf)
 have c0:=N1.c0
 have c1:=N1.c1
 have c2:=N1.c2
 have t1:=ht.below b1 ht.1
 have H1:=H.below b1
 have B1:=B0.trans (b1.mono B0.size)
 have hE:P.setNE a N=if (r&&(f&&isNode (P.L a.toNat)))=true then 0 else 1:=by unfold Pl.setNE Pl.setNB;rw[hr,hf]
 have hP:P.setN a N=if (r&&(f&&isNode (P.L a.toNat)))=true then ⟨P.S,P.C,upd P.L a.toNat (some (.node N))⟩ else P:=by unfold Pl.setN Pl.setNB;rw[hr,hf]
 rw[hE,hP]
 clear hE hP
 cases r with
 |false=>
  clear hf hr
  go_enter Tryz.func47,Tryz.ntmps47
  go_wp2_with fail
  generalize w.alloc (.cells #[.int .i64 N.lvl,.slice A n c,.slice B mm dd] 29)=w1 at b1 N1 z1 c0 c1 c2 t1 H1 B1 ⊢
  refine (Hmy.out w1 B1).mono ?_
  rintro e w2 ⟨rfl,b2⟩
  have BB:=b1.trans (b2.mono (by omega))
  go_wp2
  go_ret
  exact⟨rfl,H.below BB,q00 BB⟩
 |true=>
  cases f with
  |false=>
   clear hf hr
   go_enter Tryz.func47,Tryz.ntmps47
   go_wp2_with fail
   generalize w.alloc (.cells #[.int .i64 N.lvl,.slice A n c,.slice B mm dd] 29)=w1 at b1 N1 z1 c0 c1 c2 t1 H1 B1 ⊢
   refine (Hmy.out w1 B1).mono ?_
   rintro e w2 ⟨rfl,b2⟩
   have BB:=b1.trans (b2.mono (by omega))
   have H2:=H.below BB
   go_wp2_with fail
   refine (Hfr.out w2 H2).mono ?_
   rintro e w3 ⟨rfl,rfl⟩
   go_wp2
   go_ret
   exact⟨rfl,H2,q00 BB⟩
  |true=>
   have hg0:=qdt hf
   obtain⟨k,rfl,hk⟩:=q6w hg0
   rw[Int.toNat_natCast]
   have hkn:k≤2047:=by have:=hok.c.1;omega
   obtain⟨b,hb⟩:=hfr k hf
   have hlv:P.live k=some b:=by unfold Pl.live;rw[if_neg hg0];exact hb
   have hnE:=qou D hg0 hlv
   have hpn:=fun (w2:World) (bb:Below w.heap.size w w2)=>q96 (L0.below bb) (H.below bb) hkd (ht.below bb ht.1) (k:Int)
   rw[hnE] at hpn
   obtain⟨M0,hM0⟩:∃M0,P.nodeN D (k:Int)=M0:=⟨_,rfl⟩
   rw[hM0] at hpn
   cases b with
   |bytes kk l=>
    rw[hb]
    have Hpn:=Lib.hid hpn
    clear hf hr hpn hnE hM0 hlv hb hg0
    show Calls _ _ _ _ fun e w'=>e=.returned (.int .i64 1)∧Pool w' p d S T P∧Turn S w w'
    go_enter Tryz.func47,Tryz.ntmps47
    go_wp2_with fail
    generalize w.alloc (.cells #[.int .i64 N.lvl,.slice A n c,.slice B mm dd] 29)=w1 at b1 N1 z1 c0 c1 c2 t1 H1 B1 ⊢
    refine (Hmy.out w1 B1).mono ?_
    rintro e w2 ⟨rfl,b2⟩
    have BB:=b1.trans (b2.mono (by omega))
    have H2:=H.below BB
    go_wp2_with fail
    refine (Hfr.out w2 H2).mono ?_
    rintro e w3 ⟨rfl,rfl⟩
    go_wp2_with fail
    refine (Hpn.out w2 BB).mono ?_
    rintro e w4 ⟨A1,n1,q1,B1',m1,d1,rfl,_,_,_,_,b4⟩
    have b5:Below w4.heap.size w4 (w4.alloc (.cells #[.int .i64 0,.slice none 0 0,.slice none 0 0] 29)):=blA
    have R5:NB (w4.alloc (.cells #[.int .i64 0,.slice none 0 0,.slice none 0 0] 29)) w4.heap.size 0 none 0 0 none 0 0:=NB.new w4 _ _ _ _ _ _ _ _
    go_wp2_with (first
     |(refine q07 rfl _ _ rfl w4.heap.size rfl M0.lvl A1 n1 q1 B1' m1 d1 rfl R5 ?_;intro w6 R6 T6)
     |fail)
    go_ret
    have B4:=BB.trans (b4.mono BB.size)
    have B6:Below w.heap.size w w6:=(B4.trans (b5.mono B4.size)).trans (T6.below (fun k hk=>by have:=B4.size;omega) (by have h1:=B4.size;have h2:=b5.size;omega))
    exact⟨rfl,H.below B6,q00 B6⟩
   |node M=>
    rw[hb]
    have Hpn:=Lib.hid hpn
    obtain⟨hs1,hs2,_⟩:=q62 hr hkn q15
    have hgd:=q63 hr
    have hlen:=hgd.len (a:=k) (g:=0) hkn q15
    have hso:(Bk.node N).out k 0=writeB N (k:Int) 0:=rfl
    rw[hso] at hlen
    have Hs1:=Lib.hid hs1
    have Hlen:=Lib.hid hlen
    have hlive':∀c:Nat,Pl.live ⟨P.S,P.C,upd P.L k (some (.node N))⟩ c=if c=k then some (.node N) else P.live c:=fun c=>by
     unfold Pl.live
     by_cases e:c=k
     ·subst e
      rw[if_pos rfl,if_neg hg0]
      exact q0a _ _ _
     ·rw[if_neg e]
      show (if _ then _ else upd P.L k _ c)=_
      rw[q05 _ _ e]
    have hgood':∀c x,(upd P.L k (some (.node N))) c=some x→x.good:=fun c x h=>by
     by_cases e:c=k
     ·subst e
      rw[q0a] at h
      injection h with h
      rw[←h];exact hgd
     ·rw[q05 _ _ e] at h
      obtain⟨m,cur,l,clock,v,Sc,L⟩:=H
      exact L.good c x h
    have hok':Pl.ok ⟨P.S,P.C,upd P.L k (some (.node N))⟩:=⟨hok.c,hok.res,hok.may,hok.sec,hok.gen,fun c x h=>(hgood' c x h).fine⟩
    have Hlv:=Lib.hid hlive'
    have Hgl:=Lib.hid hgood'
    have Hlok:=Lib.hid hok'
    obtain⟨m,cur,l,clock,v,Sc,L⟩:=H
    have hsome:¬getE (k:Int) l=none:=by rw[L.look k,hlv];exact fun h=>nomatch h
    have Hsome:=Lib.hid hsome
    have hpl:=L.plt
    have hml:=L.mlt
    clear hf hr hpn hnE hM0 hlv hb hg0 hs1 hs2 hlen hso hlive' hgood' hok' hsome
    show Calls _ _ _ _ fun e w'=>e=.returned (.int .i64 0)∧Pool w' p d S T ⟨P.S,P.C,upd P.L k (some (.node N))⟩∧Turn S w w'
    go_enter Tryz.func47,Tryz.ntmps47
    go_wp2_with fail
    generalize w.alloc (.cells #[.int .i64 N.lvl,.slice A n c,.slice B mm dd] 29)=w1 at b1 N1 z1 c0 c1 c2 t1 H1 B1 ⊢
    refine (Hmy.out w1 B1).mono ?_
    rintro e w2 ⟨rfl,b2⟩
    have BB:=b1.trans (b2.mono (by omega))
    have H2:=H1.below b2
    go_wp2_with fail
    refine (Hfr.out w2 H2).mono ?_
    rintro e w2' ⟨rfl,rfl⟩
    go_wp2_with fail
    refine (Hpn.out w2 BB).mono ?_
    rintro e w4 ⟨A1,n1,q1,B1',m1,d1,rfl,_,_,_,_,b4⟩
    have b5:Below w4.heap.size w4 (w4.alloc (.cells #[.int .i64 0,.slice none 0 0,.slice none 0 0] 29)):=blA
    have R5:NB (w4.alloc (.cells #[.int .i64 0,.slice none 0 0,.slice none 0 0] 29)) w4.heap.size 0 none 0 0 none 0 0:=NB.new w4 _ _ _ _ _ _ _ _
    have B4:=BB.trans (b4.mono BB.size)
    go_wp2_with (first
     |(refine q07 rfl _ _ rfl w4.heap.size rfl M0.lvl A1 n1 q1 B1' m1 d1 rfl R5 ?_;intro w3 R6 T6;have bkE0:(bkE (.node M)!=0)=false:=rfl)
     |fail)
    have B3:Below w.heap.size w w3:=(B4.trans (b5.mono B4.size)).trans (T6.below (fun k hk=>by have:=B4.size;omega) (by have h1:=B4.size;have h2:=b5.size;omega))
    have z2:=b2.size
    have z3:=B3.size
    have N3:NB w3 w.heap.size N.lvl A n c B mm dd:=by
     have N2:=N1.below b2 (by omega)
     have N4:=N2.below b4 N2.lt
     have N5:=N4.below b5 N4.lt
     have hlt:=N5.lt
     obtain⟨t,h⟩:=N5
     exact⟨t,(T6.block w.heap.size hlt (by have:=N4.lt;omega)).trans h⟩
    have L3:=L.below B3
    have q40:=L3.c40
    have t3:Tab w3:=ht.below B3 ht.1
    have hbm:w.heap.size≠m:=fun e=>by have h1:=hT m (L.sub _ L.inS.2.1);omega
    have hF:∀w',Below w3.heap.size w3 w'→w'.cell? ⟨p,40,none⟩=some (.map (some m))∧w'.cell? ⟨w.heap.size,0,none⟩=some (.int .i64 N.lvl)∧w'.cell? ⟨w.heap.size,1,none⟩=some (.slice A n c)∧w'.cell? ⟨w.heap.size,2,none⟩=some (.slice B mm dd):=fun w' hb=>
     have N':=N3.below hb N3.lt
     ⟨(hb.cell (p:=⟨p,40,none⟩) (by show p<_;omega)).trans q40,N'.c0,N'.c1,N'.c2⟩
    have hFb:∀w' (o:Obj),Below w3.heap.size w3 w'→(setBlock w' m o).cell? ⟨p,40,none⟩=some (.map (some m))∧(setBlock w' m o).cell? ⟨w.heap.size,0,none⟩=some (.int .i64 N.lvl)∧(setBlock w' m o).cell? ⟨w.heap.size,1,none⟩=some (.slice A n c)∧(setBlock w' m o).cell? ⟨w.heap.size,2,none⟩=some (.slice B mm dd):=fun w' o hb=>by
     have hz:=hb.size
     have hnl:=N3.lt
     have TB:Turn (fun k=>k=m) w' (setBlock w' m o):=q0o _ rfl
     obtain⟨h1,h2,h3,h4⟩:=hF w' hb
     have e1:=TB.block p (by omega) L.p_m
     have e2:=TB.block w.heap.size (by omega) hbm
     exact⟨(World.cell?_of_block (a:=⟨p,40,none⟩) e1).trans h1,(World.cell?_of_block (a:=⟨w.heap.size,0,none⟩) e2).trans h2,(World.cell?_of_block (a:=⟨w.heap.size,1,none⟩) e2).trans h3,(World.cell?_of_block (a:=⟨w.heap.size,2,none⟩) e2).trans h4⟩
    have BD:Below w3.heap.size w3 w3.drew:=(Below.refl _ _).drew
    have Hup:=Lib.hid (fun (w':World) (hb:Below w3.heap.size w3 w') (v':Value)=>(congrArg (fun z:Nat=>Result.ok () (setBlock w' m (.map (putE (k:Int) v' clock l).toArray z))) (if_neg Hsome.out)).subst (motive:=fun r=>(Instr.mapUpdate 108 (.map (some m)) (.int .i64 (k:Int)) v').run Tryz.prog w'=r) (q1r L.ents Tryz.underlying108 Tryz.underlying3 ((hb.block m (by omega)).trans L3.map) (k:Int) v'))
    have BI:=B0.trans ((B3.trans (BD.mono B3.size)).mono B0.size)
    clear c0 c1 c2 H1 H2 R6 R5
    go_wp2_with fail
    go_region_held3 (fun w'=>w'.cell? ⟨p,40,none⟩=some (.map (some m))∧w'.cell? ⟨w.heap.size,0,none⟩=some (.int .i64 N.lvl)∧w'.cell? ⟨w.heap.size,1,none⟩=some (.slice A n c)∧w'.cell? ⟨w.heap.size,2,none⟩=some (.slice B mm dd))
     (first|assumption|exact hF _ BD|exact hF _ bb3|exact hFb _ _ bb3)
     (first
      |(go_at_call 104;refine (qa2 N (k:Int) 0 A n c B mm dd _ (hI.below BI) (hK.below BI) hn hm (t3.below BD t3.1)).mono ?_;rw[Hs1.out];rintro e w4 ⟨A3,n3,c3,rfl,own3',hg3,hb3⟩;have bb3:Below w3.heap.size w3 w4:=BD.trans hb3;have hup:=Hup.out w4 bb3)
      |fail)
    obtain⟨q,rfl,rfl,rfl⟩:=hg3 (by first|trivial|rfl)
    have hq:=(own3'.block ⟨q,0,none⟩ rfl).1
    obtain⟨R1,R2⟩:=L3.store (P':=⟨P.S,P.C,upd P.L k (some (.node N))⟩) (b:=.node N) (Turn.refl _ _) L3.ct bb3 rfl rfl hk Hlv.out Hgl.out Hlok.out own3'.sl (fun h=>by have h1:=hT q h;have h2:w3.drew.heap.size=w3.heap.size:=rfl;have h3:w3.drew.heap.size≤q:=hq;omega)
    rw[if_neg Hsome.out] at R1 R2
    go_wp2
    go_ret
    exact⟨rfl,R1,(q00 (S:=S) B3).trans R2 fun k hk=>.inl hk⟩
end
structure Pl.inv (P:Pl):Prop where
 kind:∀a b,P.L a=some b→b.kindOk
 good:∀a b,P.L a=some b→b.good
 fresh:∀a:Nat,P.C.fresh (a:Int)=true→∃b,P.L a=some b
theorem qha {C C':Ct}(hd:C'.done=C.done){c:Nat}(hg:C.get (c:Int)=0→C'.get (c:Int)=0)(h:C'.fresh (c:Int)=true):C.fresh (c:Int)=true:=by
 unfold Ct.fresh at h ⊢
 split at h
 ·cases h
 ·rename_i h1
  rw[if_neg (fun h2=>h1 (hg h2)),←hd]
  exact h
theorem qru {C:Ct}{k c:Nat}(x:Int)(h:c≠k):(C.put k x).get (c:Int)=C.get (c:Int):=by
 unfold Ct.get
 rw[C.put_n,Int.toNat_natCast]
 have:nm (C.put k x).now c=nm C.now c:=q4a C.now k c x (fun e=>h e.symm)
 rw[this]
theorem qm5 {P:Pl}(h:P.inv){b:Bk}(hk:b.kindOk)(hg:b.good):(P.lay b).inv:=by
 cases hp:P.C.pick with
 |none=>rw[q7q hp];exact h
 |some a=>
  have e:=q3s hp b
  obtain⟨_,_,hal⟩:=Ct.alloc_some hp
  rw[e]
  refine⟨fun c x (hx:upd P.L a (some b) c=some x)=>?_,fun c x (hx:upd P.L a (some b) c=some x)=>?_,fun c hc=>?_⟩
  ·by_cases e:c=a
   ·subst e;rw[q0a] at hx;injection hx with hx;exact hx▸hk
   ·rw[q05 _ _ e] at hx;exact h.kind c x hx
  ·by_cases e:c=a
   ·subst e;rw[q0a] at hx;injection hx with hx;exact hx▸hg
   ·rw[q05 _ _ e] at hx;exact h.good c x hx
  ·by_cases e:c=a
   ·subst e;exact⟨b,q0a _ _ _⟩
   ·have hc:P.C.alloc.fresh (c:Int)=true:=hc
    rw[hal] at hc
    obtain⟨x,hx⟩:=h.fresh c (qha (C:=P.C) (C':=P.C.put a 1) rfl (fun h0=>(qru 1 e).trans h0) hc)
    exact⟨x,(q05 _ _ e).trans hx⟩
theorem qrv {P:Pl}(h:P.inv)(k:Int)(l:List UInt8):(P.put k l).inv:=by
 unfold Pl.put
 split
 ·rename_i h5
  unfold Pl.may5 at h5
  split at h5
  ·rename_i m hm
   have hl:=of_decide_eq_true h5
   obtain⟨h1,h2⟩:=q0p hm
   exact qm5 h ⟨m,hm,hl⟩ (q6s h1 (by omega))
  ·cases h5
 ·exact h
theorem qov {P:Pl}(h:P.inv)(N:Nd):(P.putN N).inv:=by
 unfold Pl.putN
 split
 ·rename_i hm
  exact qm5 h trivial (q63 hm)
 ·exact h
theorem qow {P:Pl}(h:P.inv)(a:Int)(N:Nd):(P.setN a N).inv:=by
 unfold Pl.setN
 split
 ·rename_i hb
  unfold Pl.setNB at hb
  rw[Bool.and_eq_true] at hb
  have hg:=q63 hb.1
  refine⟨fun c x (hx:upd P.L a.toNat (some (.node N)) c=some x)=>?_,fun c x (hx:upd P.L a.toNat (some (.node N)) c=some x)=>?_,fun c hc=>?_⟩
  ·by_cases e:c=a.toNat
   ·subst e;rw[q0a] at hx;injection hx with hx;subst hx;trivial
   ·rw[q05 _ _ e] at hx;exact h.kind c x hx
  ·by_cases e:c=a.toNat
   ·subst e;rw[q0a] at hx;injection hx with hx;exact hx▸hg
   ·rw[q05 _ _ e] at hx;exact h.good c x hx
  ·by_cases e:c=a.toNat
   ·subst e;exact⟨_,q0a _ _ _⟩
   ·obtain⟨x,hx⟩:=h.fresh c hc
    exact⟨x,(q05 _ _ e).trans hx⟩
 ·exact h
theorem qaa {P:Pl}(h:P.inv){C':Ct}(hd:C'.done=P.C.done)(hg:∀c:Nat,P.C.get (c:Int)=0→C'.get (c:Int)=0):Pl.inv ⟨P.S,C',P.L⟩:=
 ⟨h.kind,h.good,fun c hc=>h.fresh c (qha hd (hg c) hc)⟩
theorem qrw {P:Pl}(h:P.inv)(hc:P.C.ok)(a:Int):Pl.inv ⟨P.S,P.C.ref a,P.L⟩:=
 qaa h (by unfold Ct.ref;split<;>rfl) fun c h0=>(qh6 P.C a c hc).2 h0
theorem qm6 {P:Pl}(h:P.inv)(a:Int):Pl.inv ⟨P.S,P.C.unref a,P.L⟩:=
 qaa h (by unfold Ct.unref;split<;>rfl) fun c h0=>by
  rw[q8y]
  split
  ·rename_i e
   unfold Ct.unrefV
   rw[←e,if_pos h0]
  ·exact h0
theorem qhb {P:Pl}(h:P.inv)(S':Sp):(P.setS S').inv:=by unfold Pl.setS;split;exact⟨h.kind,h.good,h.fresh⟩;exact h
theorem qox {P:Pl}(h:P.inv)(i:Int)(v:Vl):(P.volP i v).inv:=by unfold Pl.volP;split;exact qhb h _;exact h
theorem qbr {S:Sp}{C:Ct}(h:C.done=C.now):Pl.inv ⟨S,C,fun _=>none⟩:=
 ⟨fun a b hb=>(by cases hb),fun a b hb=>(by cases hb),fun c hc=>by
  have hc:C.fresh (c:Int)=true:=hc
  unfold Ct.fresh at hc
  split at hc
  ·cases hc
  ·rename_i h1
   have h2:=of_decide_eq_true hc
   rw[h] at h2
   exact absurd (by unfold Ct.get;split;exact h2;rfl) h1⟩
theorem qoy (P:Pl):P.done.inv:=qbr rfl
theorem q97 (f:Nat→List UInt8)(n:Nat):(Pl.mounted f n).inv:=qbr rfl
theorem qm7 (n:Nat):(Pl.fresh n).inv:=qbr rfl
theorem qrx {P:Pl}(h:P.inv)(D:DM):(D.cmtP P).inv:=by unfold DM.cmtP;split;exact qoy P;exact h
def DM.all2 (D:DM)(Q:Nat→List UInt8→Prop):Prop:=∀s,Q s (D.dur s)∧∀x∈D.cac s,Q s x
section
variable {D:DM}{Q:Nat→List UInt8→Prop}
theorem q7s {Q':Nat→List UInt8→Prop}(h:D.all2 Q)(hq:∀s x,Q s x→Q' s x):D.all2 Q':=fun s=>⟨hq s _ (h s).1,fun x hx=>hq s x ((h s).2 x hx)⟩
theorem q3f (h:D.all2 Q)(s:Nat):Q s (D.newest s):=by
 unfold DM.newest
 by_cases e:D.cac s=[]
 ·rw[e];exact (h s).1
 ·exact (h s).2 _ (q4b _ _ e)
theorem qoz (h:D.all2 Q)(a:Stp)(ha:∀s x,a=.w s x→Q s x):(D.does a).all2 Q:=by
 cases a with
 |w s x=>
  show (D.writeD (s:Int) x).all2 Q
  unfold DM.writeD
  split
  ·exact h
  ·split
   ·exact h
   ·intro t
    refine⟨(h t).1,fun y hy=>?_⟩
    have hy:y∈upd D.cac (s:Int).toNat (D.cac (s:Int).toNat++[x]) t:=hy
    rw[Int.toNat_natCast] at hy
    by_cases e:t=s
    ·subst e
     rw[q0a] at hy
     rcases List.mem_append.1 hy with h1|h1
     ·exact (h t).2 y h1
     ·rw[List.mem_singleton.1 h1];exact ha t x rfl
    ·rw[q05 _ _ e] at hy
     exact (h t).2 y hy
 |fl=>
  show D.flushD.all2 Q
  unfold DM.flushD
  split
  ·exact h
  ·exact fun s=>⟨q3f h s,fun x hx=>(by cases hx)⟩
theorem qfh:∀(l:List Stp) {D:DM},D.all2 Q→(∀s x,Stp.w s x∈l→Q s x)→(D.runD l).all2 Q
 |[],_,h,_=>h
 |a::l,D,h,hl=>by
  have h1:=qoz h a fun s x e=>hl s x (e▸List.mem_cons_self ..)
  show (if D.says a=0 then (D.does a).runD l else D.does a).all2 Q
  split
  ·exact qfh l h1 fun s x hx=>hl s x (List.mem_cons_of_mem _ hx)
  ·exact h1
end
def genN (x:List UInt8):Nat:=gN x 10 5
theorem qq7 {x:List UInt8}(h:okB x=true):(opH x).gen=(genN x:Int):=by
 unfold opH
 rw[if_pos h,qmu]
 rfl
theorem qm8 (x:List UInt8)(slot:Int):(srS x slot).gen≤(genN x:Int):=by
 unfold srS
 split
 ·rename_i h
  obtain⟨h1,_,_⟩:=q7p h
  have:(rdL x).gen=(opH x).gen:=rfl
  rw[this,qq7 h1]
  exact Int.le_refl _
 ·show (0:Int)≤_
  omega
theorem qm9 (a b:List UInt8):(snS a b).gen≤(genN a:Int)∨(snS a b).gen≤(genN b:Int):=by
 unfold snS
 split
 ·left;show (0:Int)≤_;omega
 ·split
  ·exact .inr (qm8 b 1)
  ·exact .inl (qm8 a 0)
theorem qma {S:Sp}{slot:Int}:(genN (swB S slot):Int)≤S.gen∨swB S slot=[]:=by
 by_cases h:swOk S slot=true
 ·obtain⟨h1,h2,_⟩:=qbf h
  left
  rw[←qq7 h1,h2]
  exact Int.le_refl _
 ·right
  unfold swB
  rw[if_neg h]
theorem qhc:genN []=0:=by decide
theorem q98:genN q0g=0:=by decide
theorem qj5:genN (zeros 256)=0:=by decide
def lowQ (B:Nat):Nat→List UInt8→Prop:=fun s x=>s<2→genN x≤B
theorem qth {D:DM}{B:Nat}(h:D.all2 (lowQ B)):(mtS D.newest).gen≤(B:Int):=by
 have h0:=q3f h 0 (by omega)
 have h1:=q3f h 1 (by omega)
 unfold mtS
 rcases qm9 (D.newest 0) (D.newest 1) with e|e<;>omega
theorem qmb {P:Pl}(h:P.ok){B:Nat}(hB:P.g≤(B:Int)):∀s x,Stp.w s x∈P.steps→lowQ B s x:=by
 intro s x hx hs
 unfold Pl.steps cmtL at hx
 rw[List.mem_append] at hx
 rcases hx with hx|hx
 ·exact absurd rfl (Pl.slot_spare h hs s x hx)
 ·simp only[List.mem_cons,List.not_mem_nil,or_false,reduceCtorEq,false_or] at hx
  injection hx with h1 h2
  subst h2
  rcases qma (S:=P.sup) (slot:=P.g % 2) with e|e
  ·have:P.sup.gen=P.g:=rfl
   omega
  ·rw[e,qhc];omega
theorem qry (n:Nat){B:Nat}(hB:1≤B):∀s x,Stp.w s x∈fmtL n→lowQ B s x:=by
 intro s x hx hs
 unfold fmtL fmtA fmtB fmtC at hx
 simp only[List.mem_append,List.mem_cons,List.not_mem_nil,or_false,reduceCtorEq] at hx
 have hw:Stp.w s x∉wAt (areaAt n 1) (areaL (Ct.zero n) 1):=fun h=>by
  obtain⟨i,_,e,_⟩:=qb2 h
  unfold areaAt at e
  omega
 rcases hx with (hx|hx)|hx|hx
 ·injection hx with h1 h2;subst h2;rw[q98];omega
 ·injection hx with h1 h2;subst h2;rw[q98];omega
 ·exact absurd hx hw
 ·injection hx with h1 h2
  subst h2
  rcases qma (S:=fmtS n) (slot:=1) with e|e
  ·have:(fmtS n).gen=1:=rfl
   omega
  ·rw[e,qhc];omega
theorem qrz (n B:Nat):(DM.mk0 n).all2 (lowQ B):=fun s=>⟨fun _=>by show genN (zeros 256)≤B;rw[qj5];omega,fun x hx=>(by cases hx)⟩
end Go.Proofs.YtipejjgodnnkaaaGreatDoor
