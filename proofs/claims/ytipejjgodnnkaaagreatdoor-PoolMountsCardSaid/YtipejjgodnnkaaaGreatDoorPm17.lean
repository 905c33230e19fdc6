/- The code's node: its small functions -/
import Derived.Test.YtipejjgodnnkaaaGreatDoorPm16
namespace Go.Proofs.YtipejjgodnnkaaaGreatDoor
open Go Go.RowKit Go.Proofs
set_option maxHeartbeats 8000000
set_option maxRecDepth 100000
theorem q3b (l:Int)(r:Bool)(h:decide (l=0)=r)(A:Option Addr)(n c:Nat)(B:Option Addr)(m d:Nat)(w:World) :
  Calls Tryz.prog 136 #[.agg #[.int .i64 l,.slice A n c,.slice B m d]] w fun e w'=>e=.returned (.bool r)∧Below w.heap.size w w':=by
 go_enter Tryz.func136,Tryz.ntmps136
 go_wp2
 go_ret
 refine⟨?_,blA⟩
 rw[←h]
 first|rfl|(refine congrArg (fun x=>Ending.returned (Value.bool x)) ?_;rw[Bool.eq_iff_iff];simp)
theorem q2s (x a b:Int)(r:Bool)(h:decide (a≤x∧x≤b)=r)(w:World) :
  Calls Tryz.prog 158 #[.int .i64 x,.int .i64 a,.int .i64 b] w fun e w'=>e=.returned (.bool r)∧w=w':=by
 subst h
 go_enter Tryz.func158,Tryz.ntmps158
 go_wp2
 all_goals
  go_ret
  refine⟨congrArg (fun x=>Ending.returned (Value.bool x)) ?_,rfl⟩
  first
   |exact (decide_eq_false (by omega)).symm
   |exact decide_eq_decide.2 (by omega)
   |(rw[Bool.eq_iff_iff];simp;omega)
theorem qi3 (x:Int)(w:World) :
  Calls Tryz.prog 135 #[.int .i64 x] w fun e w'=>e=.returned (.int .i64 (if x=0 then 3 else 4))∧w=w':=by
 by_cases h:x=0
 ·rw[if_pos h]
  go_enter Tryz.func135,Tryz.ntmps135
  go_wp2
  go_ret
  exact⟨rfl,rfl⟩
 ·rw[if_neg h]
  go_enter Tryz.func135,Tryz.ntmps135
  go_wp2
  go_ret
  exact⟨rfl,rfl⟩
theorem q3o (x k:Int)(h:(if x=0 then 3 else 4)=k)(w:World) :
  Calls Tryz.prog 135 #[.int .i64 x] w fun e w'=>e=.returned (.int .i64 k)∧w=w':=by
 subst h
 exact qi3 x w
theorem q4g (k:Kd)(B:Option Addr)(m d:Nat)(w:World) :
  Calls Tryz.prog 156 #[.agg #[.int .i64 k.obj,.int .i64 k.kind,.int .i64 k.off,.slice B m d]] w fun e w'=>e=.returned (.agg #[.int .i64 k.obj,.int .i64 k.kind,.int .i64 k.off])∧Below w.heap.size w w':=by
 go_enter Tryz.func156,Tryz.ntmps156
 go_wp2
 refine bodyPost_ret (qps Tryz.results156 rfl (q4e (KB.new2 w _ k.obj k.kind k.off _))) rfl ?_
 exact⟨rfl,(blA).alloc (by simp) _⟩
theorem q4h (k:Kd)(a:Int)(w:World) :
  Calls Tryz.prog 160 #[.agg #[.int .i64 k.obj,.int .i64 k.kind,.int .i64 k.off,.int .i64 a]] w fun e w'=>e=.returned (.agg #[.int .i64 k.obj,.int .i64 k.kind,.int .i64 k.off])∧Below w.heap.size w w':=by
 go_enter Tryz.func160,Tryz.ntmps160
 go_wp2
 refine bodyPost_ret (qps Tryz.results160 rfl (q4e (KB.new2 w _ k.obj k.kind k.off _))) rfl ?_
 exact⟨rfl,(blA).alloc (by simp) _⟩
theorem q8d (k:Kd)(B:Option Addr)(m d:Nat)(r:Bool)(h:decide (m≤28)=r)(w:World) :
  Calls Tryz.prog 157 #[.agg #[.int .i64 k.obj,.int .i64 k.kind,.int .i64 k.off,.slice B m d]] w fun e w'=>e=.returned (.bool r)∧Below w.heap.size w w':=by
 go_enter Tryz.func157,Tryz.ntmps157
 go_wp2
 go_ret
 refine⟨?_,blA⟩
 rw[←h]
 exact congrArg (fun x=>Ending.returned (Value.bool x)) (decide_eq_decide.2 (by omega))
theorem q8e (k:Kd)(a:Int)(r:Bool)(h:decide (1≤a∧a≤2047)=r)(w:World) :
  Calls Tryz.prog 161 #[.agg #[.int .i64 k.obj,.int .i64 k.kind,.int .i64 k.off,.int .i64 a]] w fun e w'=>e=.returned (.bool r)∧Below w.heap.size w w':=by
 go_enter Tryz.func161,Tryz.ntmps161
 go_wp2_with fail
 refine (q2s a 1 2047 r h _).mono ?_
 rintro e w1 ⟨rfl,rfl⟩
 go_wp2
 go_ret
 exact⟨rfl,blA⟩
theorem NB.range {w:World}{b:Nat}{l:Int}{A B:Option Addr}{n c m d:Nat}(H:NB w b l A n c B m d):w.rangeAt b 0 [.int .i64 l,.slice A n c,.slice B m d]:=fun j v hv=>by
 obtain⟨t,H⟩:=H
 rw[cell_of_row _ _ _ _ _ _ H,Nat.zero_add]
 simpa using hv
theorem q0i {w:World}{b:Nat}{l:Int}{A B:Option Addr}{n c m d:Nat}(H:NB w b l A n c B m d):(loadVar 29 ⟨b,0,none⟩).run Tryz.prog w=.ok (.agg #[.int .i64 l,.slice A n c,.slice B m d]) w:=
 run_loadVar_mid w b 0 29 _ _ H.range Tryz.underlying29 rfl (by kernel_rfl)
theorem NB.new2 (w:World)(o:Obj)(l:Int)(A:Option Addr)(n c:Nat)(B:Option Addr)(m d:Nat)(t:TypeId):NB ((w.alloc o).alloc (.cells #[.int .i64 l,.slice A n c,.slice B m d] t)) (w.heap.size+1) l A n c B m d:=by
 have:=NB.new (w.alloc o) l A n c B m d t
 rwa [World.size_alloc] at this
def Nd.few (N:Nd):Nd:=⟨N.lvl,N.items.take 20,N.kids.take 20⟩
theorem TItem:RowT Tryz.prog 26 142 4 48 (.agg #[.int .i64 0,.int .i64 0,.int .i64 0,.slice none 0 0]):=⟨Tryz.underlying26,by kernel_rfl,rfl,by omega⟩
theorem TKid:RowT Tryz.prog 27 144 4 32 (.agg #[.int .i64 0,.int .i64 0,.int .i64 0,.int .i64 0]):=⟨Tryz.underlying27,by kernel_rfl,rfl,by omega⟩
theorem Sl.turned' {w w':World}{A:Option Addr}{n c:Nat}{l:List UInt8}(h:Sl w A n c l){S:Nat→Prop}(T:Turn S w w')(hA:l≠[]→∀k,q02 A=some k→¬S k):Sl w' A n c l:=by
 by_cases hl:l=[]
 ·subst hl
  exact⟨h.1,h.2.1,h.2.2.1,fun j u hu=>by simp at hu⟩
 ·exact h.turned T (hA hl)
theorem Sl.blockLt {w:World}{A:Option Addr}{n c:Nat}{l:List UInt8}(h:Sl w A n c l)(hl:l≠[]):∀k,q02 A=some k→k<w.heap.size:=by
 intro k hk
 have hn:0<n:=by have:=h.len;have:l.length≠0:=fun e=>hl (List.eq_nil_of_length_eq_zero e);omega
 obtain⟨ad,rfl,hb,_⟩:=h.cell hn
 obtain rfl:ad.block=k:=Option.some.inj hk
 exact hb
def itvs (k:Kd)(V:Option Addr)(p q:Nat):List Value:=[.int .i64 k.obj,.int .i64 k.kind,.int .i64 k.off,.slice V p q]
def IRow (w:World)(base:Nat)(A:Option Addr)(n c:Nat)(xs:List Itm):Prop:=
 ∃raw,OwnS w base 142 4 A n c raw∧raw.length=xs.length∧∀(j:Nat) r x,raw[j]?=some r→xs[j]?=some x→∃V p q,r=itvs x.k V p q∧Sl w V p q x.v∧(x.v≠[]→∀g,q02 V=some g→base≤g∧q02 A≠some g)
section
variable {w w':World}{base n c:Nat}{A:Option Addr}{xs:List Itm}
theorem qgi (w:World)(base:Nat):IRow w base none 0 0 []:=⟨[],q9b _ _ _ _,rfl,fun j r x hr=>by simp at hr⟩
theorem IRow.below (h:IRow w base A n c xs)(hb:Below w.heap.size w w'):IRow w' base A n c xs:=by
 obtain⟨raw,h1,h2,h3⟩:=h
 refine⟨raw,h1.below hb,h2,fun j r x hr hx=>?_⟩
 obtain⟨V,p,q,e,hs,hne⟩:=h3 j r x hr hx
 exact⟨V,p,q,e,hs.below hb,hne⟩
theorem IRow.itms (h:IRow w base A n c xs):Itms w A n c xs:=by
 obtain⟨raw,h1,h2,h3⟩:=h
 refine⟨raw,h1.sls (by omega),h2,fun j r x hr hx=>?_⟩
 obtain⟨V,p,q,e,hs,_⟩:=h3 j r x hr hx
 exact⟨V,p,q,e,hs⟩
theorem IRow.blockLt (h:IRow w base A n c xs):∀k,q02 A=some k→base≤k∧k<w.heap.size:=by
 obtain⟨raw,h1,_⟩:=h
 exact h1.blockLt
theorem IRow.low (h:IRow w base A n c xs){S:Nat→Prop}(T:Turn S w w')(hS:∀k,S k→k<base):IRow w' base A n c xs:=by
 obtain⟨raw,h1,h2,h3⟩:=h
 refine⟨raw,h1.turned T (fun k hk e=>by have:=(h1.blockLt k hk).1;have:=hS k e;omega),h2,fun j r x hr hx=>?_⟩
 obtain⟨V,p,q,e,hs,hne⟩:=h3 j r x hr hx
 exact⟨V,p,q,e,hs.turned' T (fun hl k hk e=>by have:=(hne hl k hk).1;have:=hS k e;omega),hne⟩
end
theorem HB.keep {w w':World}{bp:Nat}{h:Hd}(H:HB w bp h)(e:w'.heap[bp]?=w.heap[bp]?):HB w' bp h:=by
 obtain⟨t,H⟩:=H
 exact⟨t,e.trans H⟩
theorem qnu (k:Kd)(V:Option Addr)(p q:Nat):∀y∈[itvs k V p q],∀u∈y,u.oneCell'=true:=by
 intro y hy u hu
 obtain rfl:y=itvs k V p q:=by simpa using hy
 simp[itvs] at hu
 rcases hu with rfl|rfl|rfl|rfl<;>rfl
theorem q57 {w:World}{ops:Array Oper}{rest:List Oper}{o:Oper}{a:Act}{Q:Exit→Act→World→Prop}(hgd:o.guard=none)(so x:Operand)
  (ho:o.op=.call { callee:=.builtin .append,args:=#[so,x],argTypes:=#[26,26] })
  (base:Nat) (A:Option Addr) (n c:Nat) (xs:List Itm) (hs:a.eval so=.slice A n c) (hown:IRow w base A n c xs)
  (B:Option Addr) (d:Nat) (it:Itm) (V:Option Addr) (p q:Nat) (hx:a.eval x=.slice B 1 d) (hr:Sls w 4 B 1 d [itvs it.k V p q]) (hv:Sl w V p q it.v) (hva:it.v≠[]→∀g,q02 V=some g→base≤g∧q02 A≠some g) (hn:n≤1000) (hbase:base≤w.heap.size)
  (h:∀A' c' w',IRow w' base A' (n+1) c' (xs++[it])→Turn (fun k=>q02 A=some k) w w'→(q02 A'=q02 A∨q02 A'=some w.heap.size)→wpList Tryz.prog ops Q rest (a.put o.dst (.slice A' (n+1) c')) w'):wpList Tryz.prog ops Q (o::rest) a w:=by
 obtain⟨raw,h1,h2,h3⟩:=hown
 refine q3u w TItem hgd so x ho base A n c raw hs h1 B 1 d [itvs it.k V p q] hx hr (by omega) (qnu _ _ _ _) (by omega) (by omega) hbase ?_
 intro A' c' w' own' T hA' _
 refine h A' c' w' ⟨_,own',by simp[h2],fun j r x hr hx=>?_⟩ T hA'
 have old:∀(V:Option Addr) (p q:Nat) (v:List UInt8),Sl w V p q v→(v≠[]→∀g,q02 V=some g→base≤g∧q02 A≠some g)→Sl w' V p q v∧(v≠[]→∀g,q02 V=some g→base≤g∧q02 A'≠some g):=by
  intro V p q v hs hne
  refine⟨hs.turned' T (fun hl k hk e=>(hne hl k hk).2 e),fun hl g hg=>⟨(hne hl g hg).1,fun e=>?_⟩⟩
  rcases hA' with h5|h5
  ·exact (hne hl g hg).2 (h5.symm.trans e)
  ·have:=hs.blockLt hl g hg
   rw[h5] at e
   have:=Option.some.inj e
   omega
 by_cases hj:j<raw.length
 ·rw[List.getElem?_append_left hj] at hr
  rw[List.getElem?_append_left (by omega)] at hx
  obtain⟨V',p',q',e,hs',hne⟩:=h3 j r x hr hx
  obtain⟨o1,o2⟩:=old V' p' q' x.v hs' hne
  exact⟨V',p',q',e,o1,o2⟩
 ·rw[List.getElem?_append_right (by omega)] at hr hx
  have hj0:j-raw.length=0:=by
   have:=(List.getElem?_eq_some_iff.1 hr).1
   simp at this;omega
  rw[hj0] at hr
  rw[←h2,hj0] at hx
  obtain rfl:itvs it.k V p q=r:=by simpa using hr
  obtain rfl:it=x:=by simpa using hx
  obtain⟨o1,o2⟩:=old V p q it.v hv hva
  exact⟨V,p,q,rfl,o1,o2⟩
theorem qcp (A:Option Addr)(n c:Nat)(l:List UInt8)(x:Itm)(B:Option Addr)(m d:Nat)(w:World)(h:Sl w A n c l)(hv:Sl w B m d x.v)(hm:m≤28)(hn:n≤100000) :
  Calls Tryz.prog 163 #[.slice A n c,.agg #[.int .i64 x.k.obj,.int .i64 x.k.kind,.int .i64 x.k.off,.slice B m d]] w fun e w'=>∃A' n' c',e=.returned (.slice A' n' c')∧n'=n+10+m∧Own w' w.heap.size 5 A' n' c' (l++q0z x)∧Below w.heap.size w w':=by
 have Hlen:=Lib.hid h.len
 have Hvl:=Lib.hid hv.len
 obtain⟨X,hX⟩:∃X:ByteArray,(⟨x.v.toArray⟩:ByteArray)=X:=⟨_,rfl⟩
 have Xs:X.size=m:=by rw[←hX,←Hvl.out];rfl
 have Xd:=Lib.hid (show X.data.toList=x.v by rw[←hX])
 have hconv:∀w':World,Below w.heap.size w w'→(convert 30 9 (.slice B m d)).run Tryz.prog w'=.ok (.string X) w':=fun w' hb=>by
  have:=convT (hv.below hb)
  rw[hX] at this
  exact this
 clear hX
 obtain⟨k,hk⟩:∃k,x.k=k:=⟨_,rfl⟩
 have Hk:=Lib.hid hk
 rw[hk]
 clear hk
 go_enter Tryz.func163,Tryz.ntmps163
 go_wp2_with fail
 have b1:Below w.heap.size w (w.alloc (.cells #[.int .i64 k.obj,.int .i64 k.kind,.int .i64 k.off,.slice B m d] 142)):=blA
 have x0:(w.alloc (.cells #[.int .i64 k.obj,.int .i64 k.kind,.int .i64 k.off,.slice B m d] 142)).heap[w.heap.size]?=some (.cells #[.int .i64 k.obj,.int .i64 k.kind,.int .i64 k.off,.slice B m d] 142 (0,0)):=heap_alloc_new w _
 have z1:w.heap.size<(w.alloc (.cells #[.int .i64 k.obj,.int .i64 k.kind,.int .i64 k.off,.slice B m d] 142)).heap.size:=by simp
 generalize w.alloc (.cells #[.int .i64 k.obj,.int .i64 k.kind,.int .i64 k.off,.slice B m d] 142)=w1 at b1 x0 z1 ⊢
 have q0:w1.cell? ⟨w.heap.size,0,none⟩=some (.int .i64 k.obj):=by rw[cell_of_row _ _ _ _ _ _ x0];rfl
 have q1:w1.cell? ⟨w.heap.size,1,none⟩=some (.int .i64 k.kind):=by rw[cell_of_row _ _ _ _ _ _ x0];rfl
 have q2:w1.cell? ⟨w.heap.size,2,none⟩=some (.int .i64 k.off):=by rw[cell_of_row _ _ _ _ _ _ x0];rfl
 have q3:w1.cell? ⟨w.heap.size,3,none⟩=some (.slice B m d):=by rw[cell_of_row _ _ _ _ _ _ x0];rfl
 clear x0
 have hs1:=h.below b1
 have hS:∀w':World,Below w1.heap.size w1 w'→w'.cell? ⟨w.heap.size,0,none⟩=some (.int .i64 k.obj)∧w'.cell? ⟨w.heap.size,1,none⟩=some (.int .i64 k.kind)∧w'.cell? ⟨w.heap.size,2,none⟩=some (.int .i64 k.off)∧w'.cell? ⟨w.heap.size,3,none⟩=some (.slice B m d)∧(convert 30 9 (.slice B m d)).run Tryz.prog w'=.ok (.string X) w'∧Below w1.heap.size w1 w':=
  fun w' hb=>⟨(hb.cell (p:=⟨w.heap.size,_,none⟩) z1).trans q0,(hb.cell (p:=⟨w.heap.size,_,none⟩) z1).trans q1,(hb.cell (p:=⟨w.heap.size,_,none⟩) z1).trans q2,(hb.cell (p:=⟨w.heap.size,_,none⟩) z1).trans q3,hconv w' (b1.trans (hb.mono b1.size)),hb⟩
 have BD:Below w1.heap.size w1 w1.drew:=(Below.refl _ w1).drew
 have zr:w1.heap.size≤w1.drew.heap.size:=Nat.le_refl _
 have p0:n≤4398046511104:=by omega
 have pX:X.size≤255:=by omega
 clear q0 q1 q2 q3
 have HconvC:=Lib.hid hconv
 clear hconv
 go_region_held3 (fun w'=>w'.cell? ⟨w.heap.size,0,none⟩=some (.int .i64 k.obj)∧w'.cell? ⟨w.heap.size,1,none⟩=some (.int .i64 k.kind)∧w'.cell? ⟨w.heap.size,2,none⟩=some (.int .i64 k.off)∧w'.cell? ⟨w.heap.size,3,none⟩=some (.slice B m d)∧(convert 30 9 (.slice B m d)).run Tryz.prog w'=.ok (.string X) w'∧Below w1.heap.size w1 w')
  (first|assumption|exact hS _ BD|exact hS _ bb5|exact hS _ bb6)
  (first
   |(go_at_call 195;have hh:=bb5;refine (qdl A5 n5 c5 _ X _ own5.sl p5 pX).mono ?_;rintro e w6 ⟨A6,n6,c6,rfl,own6,hb6⟩;have bb6:Below w1.heap.size w1 w6:=bb5.trans (hb6.mono bb5.size))
   |(go_at_call 196;refine (qge A n c l k _ hs1.drew p0).mono ?_;rintro e w5 ⟨A5,n5,c5,rfl,own5,hb5⟩;have bb5:Below w1.heap.size w1 w5:=BD.trans (hb5.mono zr);have l5:n5=n+9:=(by have:=own5.len;rw[List.length_append,Hlen.out,Kd.bytes_len] at this;omega);have p5:n5≤17592186044416:=(by omega);have Hl5:=Lib.hid l5;clear l5)
   |fail)
 all_goals
  have e6:l++k.bytes++(dig (X.size:Int) 1++X.data.toList)=l++q0z x:=by
   unfold q0z
   rw[Xd.out,Xs,Hvl.out,Hk.out,List.append_assoc]
  have l6:=Lib.hid (show n6=n+10+m by have:=own6.len;rw[List.length_append,List.length_append,List.length_append,Hlen.out,Kd.bytes_len,q0b,Xd.out,Hvl.out] at this;omega)
  rw[e6] at own6
  have B6:=b1.trans (bb6.mono b1.size)
  have o6:=own6.less (show w.heap.size≤w5.heap.size from Nat.le_trans b1.size bb5.size)
  clear hS BD
  go_wp2
  go_ret
  exact⟨_,_,_,rfl,l6.out,o6,B6⟩
theorem qes (A:Option Addr)(n c:Nat)(l:List UInt8)(x:Kidd)(w:World)(h:Sl w A n c l)(hn:n≤100000) :
  Calls Tryz.prog 165 #[.slice A n c,.agg #[.int .i64 x.k.obj,.int .i64 x.k.kind,.int .i64 x.k.off,.int .i64 x.a]] w fun e w'=>∃A' n' c',e=.returned (.slice A' n' c')∧n'=n+11∧Own w' w.heap.size 5 A' n' c' (l++q0q x)∧Below w.heap.size w w':=by
 have Hlen:=Lib.hid h.len
 have hb0:q0q x=x.k.bytes++dig x.a 2:=rfl
 obtain⟨k,hk⟩:∃k,x.k=k:=⟨_,rfl⟩
 obtain⟨a,ha⟩:∃a,x.a=a:=⟨_,rfl⟩
 rw[hk,ha] at hb0
 have Hb0:=Lib.hid hb0
 rw[hk,ha]
 clear hk ha hb0
 go_enter Tryz.func165,Tryz.ntmps165
 go_wp2_with fail
 have b1:Below w.heap.size w (w.alloc (.cells #[.int .i64 k.obj,.int .i64 k.kind,.int .i64 k.off,.int .i64 a] 144)):=blA
 have x0:(w.alloc (.cells #[.int .i64 k.obj,.int .i64 k.kind,.int .i64 k.off,.int .i64 a] 144)).heap[w.heap.size]?=some (.cells #[.int .i64 k.obj,.int .i64 k.kind,.int .i64 k.off,.int .i64 a] 144 (0,0)):=heap_alloc_new w _
 have z1:w.heap.size<(w.alloc (.cells #[.int .i64 k.obj,.int .i64 k.kind,.int .i64 k.off,.int .i64 a] 144)).heap.size:=by simp
 generalize w.alloc (.cells #[.int .i64 k.obj,.int .i64 k.kind,.int .i64 k.off,.int .i64 a] 144)=w1 at b1 x0 z1 ⊢
 have q0:w1.cell? ⟨w.heap.size,0,none⟩=some (.int .i64 k.obj):=by rw[cell_of_row _ _ _ _ _ _ x0];rfl
 have q1:w1.cell? ⟨w.heap.size,1,none⟩=some (.int .i64 k.kind):=by rw[cell_of_row _ _ _ _ _ _ x0];rfl
 have q2:w1.cell? ⟨w.heap.size,2,none⟩=some (.int .i64 k.off):=by rw[cell_of_row _ _ _ _ _ _ x0];rfl
 have q3:w1.cell? ⟨w.heap.size,3,none⟩=some (.int .i64 a):=by rw[cell_of_row _ _ _ _ _ _ x0];rfl
 clear x0
 have hs1:=h.below b1
 have hS:∀w':World,Below w1.heap.size w1 w'→w'.cell? ⟨w.heap.size,0,none⟩=some (.int .i64 k.obj)∧w'.cell? ⟨w.heap.size,1,none⟩=some (.int .i64 k.kind)∧w'.cell? ⟨w.heap.size,2,none⟩=some (.int .i64 k.off)∧w'.cell? ⟨w.heap.size,3,none⟩=some (.int .i64 a)∧Below w1.heap.size w1 w':=
  fun w' hb=>⟨(hb.cell (p:=⟨w.heap.size,_,none⟩) z1).trans q0,(hb.cell (p:=⟨w.heap.size,_,none⟩) z1).trans q1,(hb.cell (p:=⟨w.heap.size,_,none⟩) z1).trans q2,(hb.cell (p:=⟨w.heap.size,_,none⟩) z1).trans q3,hb⟩
 have BD:Below w1.heap.size w1 w1.drew:=(Below.refl _ w1).drew
 have zr:w1.heap.size≤w1.drew.heap.size:=Nat.le_refl _
 have p0:n≤4398046511104:=by omega
 have r1:(1:Int)≤2:=by omega
 have r2:(2:Int)≤8:=by omega
 clear q0 q1 q2 q3
 go_region_held3 (fun w'=>w'.cell? ⟨w.heap.size,0,none⟩=some (.int .i64 k.obj)∧w'.cell? ⟨w.heap.size,1,none⟩=some (.int .i64 k.kind)∧w'.cell? ⟨w.heap.size,2,none⟩=some (.int .i64 k.off)∧w'.cell? ⟨w.heap.size,3,none⟩=some (.int .i64 a)∧Below w1.heap.size w1 w')
  (first|assumption|exact hS _ BD|exact hS _ bb5|exact hS _ bb6)
  (first
   |(go_at_call 174;have hh:=bb5;refine (q5r A5 n5 c5 _ a 2 _ own5.sl p5 r1 r2).mono ?_;rintro e w6 ⟨A6,n6,c6,rfl,own6,hn6,hb6⟩;have bb6:Below w1.heap.size w1 w6:=bb5.trans (hb6.mono bb5.size))
   |(go_at_call 196;refine (qge A n c l k _ hs1.drew p0).mono ?_;rintro e w5 ⟨A5,n5,c5,rfl,own5,hb5⟩;have bb5:Below w1.heap.size w1 w5:=BD.trans (hb5.mono zr);have l5:n5=n+9:=(by have:=own5.len;rw[List.length_append,Hlen.out,Kd.bytes_len] at this;omega);have p5:n5≤17592186044416:=(by omega);have Hl5:=Lib.hid l5;clear l5)
   |fail)
 all_goals
  have e6:l++k.bytes++dig a (2:Int).toNat=l++q0q x:=by
   rw[Hb0.out,List.append_assoc]
   rfl
  have l6:=Lib.hid (show n6=n+11 by have:=own6.len;rw[List.length_append,List.length_append,Hlen.out,Kd.bytes_len,q0b] at this;rw[←this];rfl)
  rw[e6] at own6
  have B6:=b1.trans (bb6.mono b1.size)
  have o6:=own6.less (show w.heap.size≤w5.heap.size from Nat.le_trans b1.size bb5.size)
  clear hS BD
  go_wp2
  go_ret
  exact⟨_,_,_,rfl,l6.out,o6,B6⟩
def bI (xs:List Itm)(j:Nat):List UInt8:=(xs.take j).flatMap q0z
def bK (xs:List Kidd)(j:Nat):List UInt8:=(xs.take j).flatMap q0q
theorem qqv (xs:List Itm)(j:Nat)(h:j<xs.length):bI xs (j+1)=bI xs j++q0z (itAt xs j):=by
 unfold bI
 have:=q2m h
 rw[List.getElem?_eq_getElem h] at this
 rw[List.take_succ_eq_append_getElem h,List.flatMap_append,Option.some.inj this]
 simp
theorem qqw (xs:List Kidd)(j:Nat)(h:j<xs.length):bK xs (j+1)=bK xs j++q0q (kidAt xs j):=by
 unfold bK
 have:=q2b h
 rw[List.getElem?_eq_getElem h] at this
 rw[List.take_succ_eq_append_getElem h,List.flatMap_append,Option.some.inj this]
 simp
theorem qsu (xs:List Itm):bI xs xs.length=xs.flatMap q0z:=by unfold bI;rw[List.take_length]
theorem qsv (xs:List Kidd):bK xs xs.length=xs.flatMap q0q:=by unfold bK;rw[List.take_length]
theorem qkb (xs:List Itm)(A:Option Addr)(n c:Nat)(w:World)(hI:Itms w A n c xs)(hn:n≤1000)(hv:∀j,j<n→(itAt xs j).v.length≤28) :
  Calls Tryz.prog 162 #[.slice A n c,.func (.func 163) #[] #[]] w fun e w'=>∃A' n' c',e=.returned (.slice A' n' c')∧n'≤38*n∧Sl w' A' n' c' (xs.flatMap q0z)∧(∀ad,A'=some ad→w.heap.size≤ad.block)∧Below w.heap.size w w':=by
 have Hlen:=Lib.hid hI.len
 have Hv:=Lib.hid hv
 clear hv
 obtain⟨hb1,hb2⟩:=hI.bounds
 unfold maxLen at hb2
 go_enter Tryz.func162,Tryz.ntmps162
 go_wp2_with fail
 go_loopw [5,10] (fun b i wr=>∃(j q:Nat) (A':Option Addr) (c':Nat),j≤n∧q≤38*j∧i=.int .i64 (j:Int)∧b=.slice A' q c'∧Sl wr A' q c' (bI xs j)∧(∀ad,A'=some ad→w.heap.size≤ad.block)∧Below w.heap.size w wr) (fun _ i _=>n-(intOf i).toNat)
 case atStart=>exact⟨0,0,_,_,Nat.zero_le _,by omega,rfl,rfl,q0k _,(fun ad h=>by cases h),Below.refl _ _⟩
 case round=>
  obtain⟨j,q,A',c',hj,hq,rfl,rfl,hs,hO,hB⟩:=hrel
  by_cases hlt:j<n
  ·have hIr:=hI.below hB
   obtain⟨g,o,B',m',d',hA,hg,c0,c1,c2,c3,hsl⟩:=hIr.cell hlt
   have hv28:=Hv.out j hlt
   rw[hsl.len] at hv28
   subst hA
   have Hnext:=Lib.hid (qqv xs j (by rw[Hlen.out];exact hlt))
   obtain⟨x,hx⟩:∃x,itAt xs j=x:=⟨_,rfl⟩
   rw[hx] at c0 c1 c2 hsl Hnext
   clear hx
   go_wp2_with fail
   have bx:Below wr.heap.size wr (wr.alloc (.cells #[.int .i64 x.k.obj,.int .i64 x.k.kind,.int .i64 x.k.off,.slice B' m' d'] 142)):=blA
   refine (qcp A' q c' _ x B' m' d' _ (hs.below bx) (hsl.below bx) hv28 (by omega)).mono ?_
   rintro e w2 ⟨A2,n2,c2',rfl,hn2,own2,hb2'⟩
   have hB2:=hB.trans ((bx.trans (hb2'.mono bx.size)).mono hB.size)
   have hn3:n2≤38*(j+1):=by omega
   have Hn2:=Lib.hid hn2
   clear hn2
   rw[←Hnext.out] at own2
   have hs2:=own2.sl
   have hO2:∀ad,A2=some ad→w.heap.size≤ad.block:=fun ad h=>by have h1:=(own2.block ad h).1;have h2:=hB.size;have h3:=bx.size;omega
   clear hO
   clear own2 bx
   go_wp2
   exact⟨⟨j+1,n2,A2,c2',by omega,hn3,by go_num,rfl,hs2,hO2,hB2⟩,by simp[intOf];omega⟩
  ·obtain rfl:j=n:=by omega
   have e:bI xs j=xs.flatMap q0z:=by rw[←Hlen.out];exact qsu xs
   rw[e] at hs
   go_wp2
   go_ret
   exact⟨_,_,_,rfl,hq,hs,hO,hB⟩
theorem qkc (xs:List Kidd)(A:Option Addr)(n c:Nat)(w:World)(hI:Kidl w A n c xs)(hn:n≤1000) :
  Calls Tryz.prog 164 #[.slice A n c,.func (.func 165) #[] #[]] w fun e w'=>∃A' n' c',e=.returned (.slice A' n' c')∧n'≤11*n∧Sl w' A' n' c' (xs.flatMap q0q)∧(∀ad,A'=some ad→w.heap.size≤ad.block)∧Below w.heap.size w w':=by
 have Hlen:=Lib.hid hI.len
 skip
 skip
 obtain⟨hb1,hb2⟩:=hI.bounds
 unfold maxLen at hb2
 go_enter Tryz.func164,Tryz.ntmps164
 go_wp2_with fail
 go_loopw [5,10] (fun b i wr=>∃(j q:Nat) (A':Option Addr) (c':Nat),j≤n∧q≤11*j∧i=.int .i64 (j:Int)∧b=.slice A' q c'∧Sl wr A' q c' (bK xs j)∧(∀ad,A'=some ad→w.heap.size≤ad.block)∧Below w.heap.size w wr) (fun _ i _=>n-(intOf i).toNat)
 case atStart=>exact⟨0,0,_,_,Nat.zero_le _,by omega,rfl,rfl,q0k _,(fun ad h=>by cases h),Below.refl _ _⟩
 case round=>
  obtain⟨j,q,A',c',hj,hq,rfl,rfl,hs,hO,hB⟩:=hrel
  by_cases hlt:j<n
  ·have hIr:=hI.below hB
   obtain⟨g,o,hA,hg,c0,c1,c2,c3⟩:=hIr.cell hlt
   subst hA
   have Hnext:=Lib.hid (qqw xs j (by rw[Hlen.out];exact hlt))
   obtain⟨x,hx⟩:∃x,kidAt xs j=x:=⟨_,rfl⟩
   rw[hx] at c0 c1 c2 c3 Hnext
   clear hx
   go_wp2_with fail
   have bx:Below wr.heap.size wr (wr.alloc (.cells #[.int .i64 x.k.obj,.int .i64 x.k.kind,.int .i64 x.k.off,.int .i64 x.a] 144)):=blA
   refine (qes A' q c' _ x _ (hs.below bx) (by omega)).mono ?_
   rintro e w2 ⟨A2,n2,c2',rfl,hn2,own2,hb2'⟩
   have hB2:=hB.trans ((bx.trans (hb2'.mono bx.size)).mono hB.size)
   have hn3:n2≤11*(j+1):=by omega
   have Hn2:=Lib.hid hn2
   clear hn2
   rw[←Hnext.out] at own2
   have hs2:=own2.sl
   have hO2:∀ad,A2=some ad→w.heap.size≤ad.block:=fun ad h=>by have h1:=(own2.block ad h).1;have h2:=hB.size;have h3:=bx.size;omega
   clear hO
   clear own2 bx
   go_wp2
   exact⟨⟨j+1,n2,A2,c2',by omega,hn3,by go_num,rfl,hs2,hO2,hB2⟩,by simp[intOf];omega⟩
  ·obtain rfl:j=n:=by omega
   have e:bK xs j=xs.flatMap q0q:=by rw[←Hlen.out];exact qsv xs
   rw[e] at hs
   go_wp2
   go_ret
   exact⟨_,_,_,rfl,hq,hs,hO,hB⟩
section
variable {P:Program}{t e:TypeId}{s b:Nat}{z:Value}(w:World)
end
def iv (z:Int):List Value:=[.int .i64 z]
theorem qnv (x y:Operand)(xs ys:Array Value)(w:World):(eqGuard .neq 140 x y (.agg xs) (.agg ys)).run Tryz.prog w=.ok () w:=
 run_eqGuard_agg w .neq 140 x y xs ys (by kernel_rfl)
theorem qcq (x y:Operand)(xs ys:Array Value)(w:World):(eqGuard .neq 144 x y (.agg xs) (.agg ys)).run Tryz.prog w=.ok () w:=
 run_eqGuard_agg w .neq 144 x y xs ys (by kernel_rfl)
theorem qnw (a:Kd)(w:World)(d:Nat):(Op.equalIn (d+2) 140 (.agg #[.int .i64 a.obj,.int .i64 a.kind,.int .i64 a.off]) (.agg #[.int .i64 a.obj,.int .i64 a.kind,.int .i64 a.off])).run Tryz.prog w=.ok true w:=by
 rw[run_equalIn_agg w (d+1) 140 _ _ (by kernel_rfl) (by kernel_rfl)]
 unfold Program.fieldsOf
 rw[Tryz.underlying140]
 simp[go_sem,Tryz.underlying3]
theorem qsw (a:Kd)(w:World):(binOp .neq 140 (.agg #[.int .i64 a.obj,.int .i64 a.kind,.int .i64 a.off]) (.agg #[.int .i64 a.obj,.int .i64 a.kind,.int .i64 a.off])).run Tryz.prog w=.ok (.bool false) w:=by
 rw[run_neq_struct,qnw a w 9998]
 rfl
theorem qsx (x:Kidd)(w:World):(binOp .neq 144 (.agg #[.int .i64 x.k.obj,.int .i64 x.k.kind,.int .i64 x.k.off,.int .i64 x.a]) (.agg #[.int .i64 x.k.obj,.int .i64 x.k.kind,.int .i64 x.k.off,.int .i64 x.a])).run Tryz.prog w=.ok (.bool false) w:=by
 rw[run_neq_struct,run_equalIn_agg w 9999 144 _ _ (by kernel_rfl) (by kernel_rfl)]
 unfold Program.fieldsOf
 rw[Tryz.underlying144]
 simp[go_sem,Tryz.underlying3]
theorem qqx (w:World)(l:Int)(A:Option Addr)(n c:Nat)(B:Option Addr)(m d:Nat)(A2:Option Addr)(c2:Nat)(B2:Option Addr)(d2:Nat) :
  NB ((w.alloc (.cells #[.int .i64 l,.slice A n c,.slice B m d] 29)).alloc (.cells #[.int .i64 l,.slice A2 n c2,.slice B2 m d2] 29)) w.heap.size l A n c B m d∧NB ((w.alloc (.cells #[.int .i64 l,.slice A n c,.slice B m d] 29)).alloc (.cells #[.int .i64 l,.slice A2 n c2,.slice B2 m d2] 29)) (w.heap.size+1) l A2 n c2 B2 m d2∧Below w.heap.size w ((w.alloc (.cells #[.int .i64 l,.slice A n c,.slice B m d] 29)).alloc (.cells #[.int .i64 l,.slice A2 n c2,.slice B2 m d2] 29)):=
 ⟨(NB.new w _ _ _ _ _ _ _ _).below (blA) (by simp),NB.new2 w _ _ _ _ _ _ _ _ _,(blA).alloc (by simp) _⟩
theorem q8f (N:Nd)(A:Option Addr)(n c:Nat)(B:Option Addr)(m d:Nat)(A2:Option Addr)(c2:Nat)(B2:Option Addr)(d2:Nat)(w:World)(hI:Itms w A n c N.items)(hK:Kidl w B m d N.kids)(hI2:Itms w A2 n c2 N.items)(hK2:Kidl w B2 m d2 N.kids) :
  Calls Tryz.prog 24 #[.agg #[.int .i64 N.lvl,.slice A n c,.slice B m d],.agg #[.int .i64 N.lvl,.slice A2 n c2,.slice B2 m d2]] w fun e w'=>e=.returned (.bool true)∧Below w.heap.size w w':=by
 have hg:=qnv
 have hgk:=qcq
 obtain⟨hb1,hb2⟩:=hI.bounds
 obtain⟨hb3,hb4⟩:=hK.bounds
 unfold maxLen at hb2 hb4
 obtain⟨l,hll⟩:∃l,N.lvl=l:=⟨_,rfl⟩
 rw[hll]
 clear hll
 go_enter Tryz.func24,Tryz.ntmps24
 go_wp2_with fail
 obtain⟨N1,M1,W1⟩:=qqx w l A n c B m d A2 c2 B2 d2
 generalize (w.alloc (.cells #[.int .i64 l,.slice A n c,.slice B m d] 29)).alloc (.cells #[.int .i64 l,.slice A2 n c2,.slice B2 m d2] 29)=w1 at N1 M1 W1 ⊢
 have HlI:=Lib.hid hI.len
 have HlK:=Lib.hid hK.len
 go_loopw [5] (fun i wr=>∃j:Nat,j≤n∧i=.int .i64 (j:Int)∧Below w1.heap.size w1 wr) (fun i _=>n-(intOf i).toNat)
 case atStart=>exact⟨0,Nat.zero_le _,rfl,Below.refl _ _⟩
 case round=>
  obtain⟨j,hj,rfl,hB⟩:=hrel
  have WB:=W1.trans (hB.mono W1.size)
  have Nr:=N1.below hB N1.lt
  have Mr:=M1.below hB M1.lt
  have n1:=Nr.c1
  have m1:=Mr.c1
  have n2:=Nr.c2
  have m2:=Mr.c2
  by_cases hlt:j<n
  ·obtain⟨g,o,B',m',d',hA,hg',a0,a1,a2,a3,as_⟩:=(hI.below WB).cell hlt
   obtain⟨g2,o2,B2',m2',d2',hA2,hg2,e0,e1,e2,e3,es⟩:=(hI2.below WB).cell hlt
   subst hA hA2
   obtain⟨x,hx⟩:∃x,itAt N.items j=x:=⟨_,rfl⟩
   rw[hx] at a0 a1 a2 as_ e0 e1 e2 es
   clear hx
   obtain⟨X,hX⟩:∃X,(⟨x.v.toArray⟩:ByteArray)=X:=⟨_,rfl⟩
   have s1:=fun k=>strB (as_.drewN k)
   have s2:=fun k=>strB (es.drewN k)
   rw[hX] at s1 s2
   have hq:=qsw x.k
   have hj0:(0:Int)≤(j:Int):=by omega
   have hj1:(j:Int)<(n:Int):=by omega
   clear as_ es hX
   go_wp2_with fail
   go_quiet (fail)
   generalize hw5:World.drewN wr _=w5
   have hB5:Below w1.heap.size w1 w5:=by rw[←hw5];exact q0s hB _
   clear hw5 s1 s2
   go_wp2
   exact⟨⟨j+1,by omega,by go_num,hB5⟩,by simp[intOf];omega⟩
  ·obtain rfl:n=j:=by omega
   go_wp2_with fail
   go_loopw [6] (fun i wr=>∃j:Nat,j≤m∧i=.int .i64 (j:Int)∧Below w1.heap.size w1 wr) (fun i _=>m-(intOf i).toNat)
   case atStart=>exact⟨0,Nat.zero_le _,rfl,hB⟩
   case round=>
    clear hB WB Nr Mr n1 m1 n2 m2
    obtain⟨j,hj,rfl,hB⟩:=hrel
    have WB:=W1.trans (hB.mono W1.size)
    have Nr:=N1.below hB N1.lt
    have Mr:=M1.below hB M1.lt
    have n2:=Nr.c2
    have m2:=Mr.c2
    by_cases hlt:j<m
    ·obtain⟨g,o,hA,hg',a0,a1,a2,a3⟩:=(hK.below WB).cell hlt
     obtain⟨g2,o2,hA2,hg2,e0,e1,e2,e3⟩:=(hK2.below WB).cell hlt
     subst hA hA2
     obtain⟨x,hx⟩:∃x,kidAt N.kids j=x:=⟨_,rfl⟩
     rw[hx] at a0 a1 a2 a3 e0 e1 e2 e3
     clear hx
     have hq:=qsx x
     have hj0:(0:Int)≤(j:Int):=by omega
     have hj1:(j:Int)<(m:Int):=by omega
     go_wp2_with fail
     go_quiet (fail)
     generalize hw5:World.drewN wr _=w5
     have hB5:Below w1.heap.size w1 w5:=by rw[←hw5];exact q0s hB _
     clear hw5
     go_wp2
     exact⟨⟨j+1,by omega,by go_num,hB5⟩,by simp[intOf];omega⟩
    ·obtain rfl:m=j:=by omega
     go_wp2
     go_ret
     exact⟨rfl,WB⟩
end Go.Proofs.YtipejjgodnnkaaaGreatDoor
