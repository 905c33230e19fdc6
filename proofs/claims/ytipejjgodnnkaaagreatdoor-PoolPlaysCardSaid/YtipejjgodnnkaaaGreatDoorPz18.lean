/- Superblocks: the code's body and Write -/
import Derived.Test.YtipejjgodnnkaaaGreatDoorPz17
namespace Go.Proofs.YtipejjgodnnkaaaGreatDoor
open Go Go.RowKit Go.Proofs
set_option maxHeartbeats 8000000
set_option maxRecDepth 100000
section
def ldS (p:Value):Sem Value:=Instr.loadAt 56 p
theorem q14 (p:Value):Instr.loadAt 56 p=ldS p:=rfl
def ldA (p:Value):Sem Value:=Instr.loadAt 54 p
theorem q3q (p:Value):Instr.loadAt 54 p=ldA p:=rfl
theorem SB.ld {w:World}{b:Nat}{S:Sp}(H:SB w b S):(ldS (.pointer (some ⟨b,0,none⟩))).run Tryz.prog w=.ok (.agg S.vs.toArray) w:=la_sp H
theorem SB.lda {w:World}{b:Nat}{S:Sp}(H:SB w b S):(ldA (.pointer (some ⟨b,3,none⟩))).run Tryz.prog w=.ok (.agg (S.vols.flatMap Vl.vs).toArray) w:=la_va H
attribute [local go_sem ↓] q14 q3q
def bodyB (S:Sp):List UInt8:=bodyTo S 8
theorem qlp (S:Sp)(hv:∀j,j<8→(S.at_ j).name.size≤10)(w:World) :
  Calls Tryz.prog 175 #[.agg S.vs.toArray] w fun e w'=>∃A' n' c',e=.returned (.slice A' n' c')∧Own w' w.heap.size 5 A' n' c' (bodyB S)∧Below w.heap.size w w':=by
 have H1:=SB.new w S 56
 have b1:Below w.heap.size w (w.alloc (.cells S.vs.toArray 56)):=blA
 have q1:=H1.c1
 go_enter Tryz.func175,Tryz.ntmps175
 go_wp2_with fail
 generalize w.alloc (.cells S.vs.toArray 56)=w1 at H1 b1 q1 ⊢
 refine (q70 none 0 0 [] S.sectors 2 _ (q0m _) (by omega) (by omega) (by omega)).mono ?_
 rintro e w2 ⟨A2,n2,c2,rfl,own2,hn2,hb2⟩
 have H2:=H1.below hb2 H1.lt
 have B2:=b1.trans (hb2.mono b1.size)
 have q2:=H2.c2
 clear q1
 go_wp2_with fail
 refine (q70 A2 n2 c2 _ S.log 2 _ own2.sl (by omega) (by omega) (by omega)).mono ?_
 rintro e w3 ⟨A3,n3,c3,rfl,own3,hn3,hb3⟩
 have H3:=H2.below hb3 H2.lt
 have B3:=B2.trans (hb3.mono B2.size)
 have q3:=H3.lda
 have e3:[]++dig S.sectors (2:Int).toNat++dig S.log (2:Int).toNat=bodyTo S 0:=by rw[q5t];rfl
 rw[e3] at own3
 have own3:=own3.less B2.size
 clear q2 H1 H2 own2
 go_wp2_with fail
 go_loopw [3,15] (fun b i wr=>∃(k:Nat) (A:Option Addr) (n c:Nat),k≤8∧n≤4+18*k∧b=.slice A n c∧i=.int .i64 (k:Int)∧Own wr w.heap.size 5 A n c (bodyTo S k)∧Below w.heap.size w wr) (fun _ i _=>8-(intOf i).toNat)
 case atStart=>exact⟨0,A3,n3,c3,by omega,by omega,rfl,rfl,own3,B3⟩
 case round=>
  obtain⟨k,A,n,c,hk,hn,rfl,rfl,own,hB⟩:=hrel
  by_cases hlt:k<8
  ·have hix:=quh S hlt
   have hk0:(0:Int)≤(k:Int):=by omega
   have hnx:=Lib.hid (q5u S hlt)
   have hsz:=hv k hlt
   obtain⟨x,hx⟩:∃x,S.at_ k=x:=⟨_,rfl⟩
   rw[hx] at hix hsz hnx
   clear hx
   go_wp2_with fail
   have bx:Below wr.heap.size wr (wr.alloc (.cells #[.string x.name,.bool x.ro,.int .i64 x.root,.int .i64 x.next] 32)):=blA
   have owx:=own.below bx
   have hBx:=hB.trans (bx.mono hB.size)
   generalize wr.alloc (.cells #[.string x.name,.bool x.ro,.int .i64 x.root,.int .i64 x.next] 32)=wx at bx owx hBx ⊢
   refine (qjh x hsz A n c _ wx owx.sl (by omega)).mono ?_
   rintro e w5 ⟨A5,n5,c5,rfl,own5,hn5,hb5⟩
   rw[←hnx.out] at own5
   have hn5':n5≤4+18*(k+1):=by omega
   clear hn5
   go_wp2
   exact⟨⟨k+1,A5,n5,c5,by omega,hn5',rfl,by go_num,own5.less hBx.size,hBx.trans (hb5.mono hBx.size)⟩,by simp[intOf];omega⟩
  ·have hk8:k=8:=by omega
   rw[hk8] at own
   go_wp2
   go_ret
   exact⟨_,_,_,rfl,own,hB⟩
end
def rdN (l:List UInt8):ByteArray:=⟨((l.drop 1).take (min (gN l 0 1) 10)).toArray⟩
def rdV (l:List UInt8):Vl:=⟨rdN l,decide (gN l 11 1≠0),(gN l 12 2:Int),(gN l 14 4:Int)⟩
theorem qhe (l:List UInt8):(rdN l).size≤10:=by
 unfold rdN
 show (List.take _ _).toArray.size≤10
 rw[List.size_toArray,List.length_take]
 omega
theorem ctake {l0:List UInt8}(p m n:Nat){A:Option Addr}{c:Nat}{w:World}(h:Sl w A n c (l0.drop p))(wd:Int)(hw:wd=(m:Int))(h1:1≤m)(h7:m≤7)(hn:m≤n)(hn2:n≤100000) :
  Calls Tryz.prog 185 #[.slice A n c,.int .i64 wd] w fun e w'=>∃A' n' c',e=.returned (.tuple #[.int .i64 (gN l0 p m),.slice A' n' c',.int .i64 0])∧Own w' w.heap.size 5 A' n' c' (l0.drop (p+m))∧(n'+m≤n∧n≤n'+m)∧Below w.heap.size w w':=by
 refine (q6h A n c _ wd w h (by omega) (by omega) (by omega) (by omega)).mono ?_
 rintro e w' ⟨A',n',c',rfl,own,hb⟩
 subst hw
 rw[Int.toNat_natCast,List.drop_drop] at own
 rw[Int.toNat_natCast]
 have hk:=own.len
 have hl:=h.len
 rw[List.length_drop] at hk hl
 exact⟨A',n',c',rfl,own,⟨by omega,by omega⟩,hb⟩
theorem Own.some_ {w:World}{base n c:Nat}{e:TypeId}{A:Option Addr}{l:List UInt8}(h:Own w base e A n c l)(h0:0<n):∃g,A=some ⟨g,0,none⟩:=by
 rcases h.2 with⟨hv,rfl⟩|⟨g,cap,cur,hv,_⟩
 ·omega
 ·injection hv with e1
  exact⟨g,e1⟩
theorem VB.set0 {w:World}{b:Nat}{v:Vl}(H:VB w b v)(s:ByteArray):VB (w.setCell ⟨b,0,none⟩ (.string s)) b ⟨s,v.ro,v.root,v.next⟩:=by
 obtain⟨t,H⟩:=H
 exact⟨t,heap_setCell_same w b 0 _ t _ H⟩
theorem VB.set1 {w:World}{b:Nat}{v:Vl}(H:VB w b v)(x:Bool):VB (w.setCell ⟨b,1,none⟩ (.bool x)) b ⟨v.name,x,v.root,v.next⟩:=by
 obtain⟨t,H⟩:=H
 exact⟨t,heap_setCell_same w b 1 _ t _ H⟩
theorem VB.set2 {w:World}{b:Nat}{v:Vl}(H:VB w b v)(x:Int):VB (w.setCell ⟨b,2,none⟩ (.int .i64 x)) b ⟨v.name,v.ro,x,v.next⟩:=by
 obtain⟨t,H⟩:=H
 exact⟨t,heap_setCell_same w b 2 _ t _ H⟩
theorem VB.set3 {w:World}{b:Nat}{v:Vl}(H:VB w b v)(x:Int):VB (w.setCell ⟨b,3,none⟩ (.int .i64 x)) b ⟨v.name,v.ro,v.root,x⟩:=by
 obtain⟨t,H⟩:=H
 exact⟨t,heap_setCell_same w b 3 _ t _ H⟩
theorem q2j {w:World}{b base n c j:Nat}{e:TypeId}{A:Option Addr}{l:List UInt8}(own:Own w base e A n c l)(hb:b<base)(x:Value):Own (w.setCell ⟨b,j,none⟩ x) base e A n c l:=
 own.turn fun g hg _=>Below.heap_setCell _ _ _ _ (by show g≠b;omega)
theorem q1g (w:World)(b j:Nat)(x:Value):Below b w (w.setCell ⟨b,j,none⟩ x):=(Below.refl _ w).setCell (p:=⟨b,j,none⟩) (Nat.le_refl _) _
theorem q0w {fn:Func}{p a:Tmp}{ty:TypeId}{ad:Addr}{v:Value}{P:Program}{w:World}{tmps:Array Value}(h:fn.results=#[.cell p ty,.tmp a])(hp:tmps.getD p undef=.pointer (some ad))(hl:(loadVar ty ad).run P w=.ok v w) :
  (results fn tmps).run P w=.ok (.tuple #[v,tmps.getD a undef]) w:=by
 have e:(results fn tmps).run P w=((asAddr (tmps.getD p undef)).run P w).andThen fun ad w₁=>((loadVar ty ad).run P w₁).andThen fun v w₂=>.ok (.tuple #[v,tmps.getD a undef]) w₂:=by
  simp only[results,h]
  simp[Sem.run_bind,Result.andThen]
 rw[e,hp]
 simp[asAddr,hl]
theorem qfy (A:Option Addr)(n c:Nat)(l:List UInt8)(w:World)(hs:Sl w A n c l)(hn:18≤n)(hn2:n≤1000) :
  Calls Tryz.prog 213 #[.slice A n c] w fun e w'=>
   ∃A' n' c',e=.returned (.tuple #[(rdV l).v,.slice A' n' c'])∧Own w' w.heap.size 5 A' n' c' (l.drop 18)∧(n'+18≤n∧n≤n'+18)∧Below w.heap.size w w':=by
 have Z1:VB (w.alloc (.cells #[.string ⟨#[]⟩,.bool false,.int .i64 0,.int .i64 0] 32)) w.heap.size Vl.zero:=VB.new w Vl.zero _
 have b1:Below w.heap.size w (w.alloc (.cells #[.string ⟨#[]⟩,.bool false,.int .i64 0,.int .i64 0] 32)):=blA
 have z1:(w.alloc (.cells #[.string ⟨#[]⟩,.bool false,.int .i64 0,.int .i64 0] 32)).heap.size=w.heap.size+1:=by simp
 go_enter Tryz.func213,Tryz.ntmps213
 go_wp2_with fail
 generalize w.alloc (.cells #[.string ⟨#[]⟩,.bool false,.int .i64 0,.int .i64 0] 32)=w1 at Z1 b1 z1 ⊢
 rw[←z1]
 have V2:VB (w1.alloc (.cells #[.string ⟨#[]⟩,.bool false,.int .i64 0,.int .i64 0] 32)) w1.heap.size Vl.zero:=VB.new w1 Vl.zero _
 have b2:Below w1.heap.size w1 (w1.alloc (.cells #[.string ⟨#[]⟩,.bool false,.int .i64 0,.int .i64 0] 32)):=blA
 generalize w1.alloc (.cells #[.string ⟨#[]⟩,.bool false,.int .i64 0,.int .i64 0] 32)=w2 at V2 b2 ⊢
 have Z2:=Z1.below b2 (by omega)
 have B2:=b1.trans (b2.mono b1.size)
 obtain⟨bk,hbk⟩:∃bk,w1.heap.size=bk:=⟨_,rfl⟩
 rw[hbk] at V2 ⊢
 have hwb:w.heap.size<bk:=by omega
 clear Z1 b1 b2 z1 hbk
 refine (ctake (l0:=l) 0 1 n (hs.below B2) 1 rfl (by omega) (by omega) (by omega) (by omega)).mono ?_
 rintro e w3 ⟨A3,n3,c3,rfl,own3,hn3,hb3⟩
 have V3:=V2.below hb3 V2.lt
 have Z3:=Z2.below hb3 Z2.lt
 have B3:=B2.trans (hb3.mono B2.size)
 have hlt3:=V2.lt
 obtain⟨m,hm⟩:∃m,gN l 0 1=m:=⟨_,rfl⟩
 have hrdn:=Lib.hid (show rdN l=⟨((l.drop 1).take (min m 10)).toArray⟩ by unfold rdN;rw[hm])
 rw[hm]
 clear hm Z2 V2
 have v3:=V3.c0
 have f3:=V3.fz 0
 have own3:Own w3 w2.heap.size 5 A3 n3 c3 (l.drop 1):=own3
 have c3a:=own3.sl.cap
 have c3m:=own3.sl.max
 unfold maxLen at c3m
 obtain⟨g3,hg3⟩:=own3.some_ (by omega)
 subst hg3
 obtain⟨nm,hnm⟩:∃nm,rdN l=nm:=⟨_,rfl⟩
 have Hnm:=Lib.hid hnm
 have hs1:m≤10→(convert 30 9 (.slice (some ⟨g3,0,none⟩) m c3)).run Tryz.prog w3=.ok (.string nm) w3:=fun h=>by
  have:=q2h (own3.sl.take (k:=m) (by omega))
  rw[this,←hnm,hrdn.out,Nat.min_eq_left h]
 have hs2:10<m→(convert 30 9 (.slice (some ⟨g3,0,none⟩) 10 c3)).run Tryz.prog w3=.ok (.string nm) w3:=fun h=>by
  have:=q2h (own3.sl.take (k:=10) (by omega))
  rw[this,←hnm,hrdn.out,Nat.min_eq_right (by omega)]
 have d10:=own3.sl.drop (k:=10) (by omega)
 rw[if_neg (by omega),List.drop_drop] at d10
 have d10:Sl w3 (some ⟨g3,10,none⟩) (n3-10) (c3-10) (l.drop 11):=d10
 have i1:(10:Nat)≤c3:=by omega
 have i2:¬c3=10:=by omega
 clear hnm hrdn
 rcases (by omega:m≤10∨10<m) with hm|hm
 all_goals
  have i3:((m:Int)≤10)=(m≤10):=by rw[eq_iff_iff];omega
  first|(have hstr:=hs1 hm;have i4:(m:Int)≤10:=by omega)|(have hstr:=hs2 hm;have i4:¬(m:Int)≤10:=by omega)
  have i5:(0:Int)≤(m:Int):=by omega
  have i6:m≤10→m≤c3:=by omega
  clear hs1 hs2 i3
  have own4:=q2j own3 (show bk<w2.heap.size from hlt3) (j:=0) (.string nm)
  have bs4:=q1g w3 bk 0 (.string nm)
  have d11:Sl (w3.setCell ⟨bk,0,none⟩ (.string nm)) (some ⟨g3,10,none⟩) (n3-10) (c3-10) (l.drop 11):=by
   have:=own4.sl.drop (k:=10) (by omega)
   rw[if_neg (by omega),List.drop_drop] at this
   exact this
  have V4:=V3.set0 nm
  have Z4:=Z3.below bs4 (by omega)
  have B4:=B3.trans (bs4.mono (by omega))
  have z4:(w3.setCell ⟨bk,0,none⟩ (.string nm)).heap.size=w3.heap.size:=World.size_setCell ..
  go_wp2_with fail
  clear hstr own4 bs4 d10 v3 f3 V3 Z3 B3 own3
  have hz3:=hb3.size
  have hk4:bk<(w3.setCell ⟨bk,0,none⟩ (.string nm)).heap.size:=by omega
  generalize w3.setCell ⟨bk,0,none⟩ (.string nm)=w4 at d11 V4 Z4 B4 z4 hk4 ⊢
  refine (ctake (l0:=l) 11 1 (n3-10) d11 1 rfl (by omega) (by omega) (by omega) (by omega)).mono ?_
  rintro e w5 ⟨A5,n5,c5,rfl,own5,hn5,hb5⟩
  have V5:=V4.below hb5 V4.lt
  have Z5:=Z4.below hb5 Z4.lt
  have B5:=B4.trans (hb5.mono B4.size)
  obtain⟨mk,hmk⟩:∃mk,gN l 11 1=mk:=⟨_,rfl⟩
  rw[hmk]
  have v5:=V5.c1
  have f5:=V5.fz 1
  obtain⟨ro,hro⟩:∃ro,decide (mk≠0)=ro:=⟨_,rfl⟩
  have hro1:((mk:Int)!=0)=ro:=by rw[←hro,Bool.eq_iff_iff];simp
  have Hro:=Lib.hid (show decide (gN l 11 1≠0)=ro by rw[hmk];exact hro)
  have own6:=q2j own5 (show bk<w4.heap.size from hk4) (j:=1) (.bool ro)
  have bs6:=q1g w5 bk 1 (.bool ro)
  have V6:=V5.set1 ro
  have Z6:=Z5.below bs6 (by omega)
  have B6:=B5.trans (bs6.mono (by omega))
  have z6:(w5.setCell ⟨bk,1,none⟩ (.bool ro)).heap.size=w5.heap.size:=World.size_setCell ..
  clear hro hmk
  go_wp2_with fail
  clear own5 bs6 v5 f5 V5 Z5 B5 hro1 d11 V4 Z4 B4 z4
  have hz5:=hb5.size
  have hk6:bk<(w5.setCell ⟨bk,1,none⟩ (.bool ro)).heap.size:=by omega
  have hw6:w4.heap.size≤(w5.setCell ⟨bk,1,none⟩ (.bool ro)).heap.size:=by omega
  generalize w5.setCell ⟨bk,1,none⟩ (.bool ro)=w6 at own6 V6 Z6 B6 z6 hk6 hw6 ⊢
  refine (ctake (l0:=l) 12 2 n5 own6.sl 2 rfl (by omega) (by omega) (by omega) (by omega)).mono ?_
  rintro e w7 ⟨A7,n7,c7,rfl,own7,hn7,hb7⟩
  have V7:=V6.below hb7 V6.lt
  have Z7:=Z6.below hb7 Z6.lt
  have B7:=B6.trans (hb7.mono B6.size)
  have v7:=V7.c2
  have f7:=V7.fz 2
  have own8:=q2j own7 (show bk<w6.heap.size from hk6) (j:=2) (.int .i64 (gN l 12 2:Int))
  have bs8:=q1g w7 bk 2 (.int .i64 (gN l 12 2:Int))
  have V8:=V7.set2 (gN l 12 2:Int)
  have Z8:=Z7.below bs8 (by omega)
  have B8:=B7.trans (bs8.mono (by omega))
  have z8:(w7.setCell ⟨bk,2,none⟩ (.int .i64 (gN l 12 2:Int))).heap.size=w7.heap.size:=World.size_setCell ..
  go_wp2_with fail
  clear own7 bs8 v7 f7 V7 Z7 B7 own6 V6 Z6 B6 z6
  have hz7:=hb7.size
  have hk8:bk<(w7.setCell ⟨bk,2,none⟩ (.int .i64 (gN l 12 2:Int))).heap.size:=by omega
  generalize w7.setCell ⟨bk,2,none⟩ (.int .i64 (gN l 12 2:Int))=w8 at own8 V8 Z8 B8 z8 hk8 ⊢
  refine (ctake (l0:=l) 14 4 n7 own8.sl 4 rfl (by omega) (by omega) (by omega) (by omega)).mono ?_
  rintro e w9 ⟨A9,n9,c9,rfl,own9,hn9,hb9⟩
  have V9:=V8.below hb9 V8.lt
  have Z9:=Z8.below hb9 Z8.lt
  have B9:=B8.trans (hb9.mono B8.size)
  have v9:=V9.c3
  have f9:=V9.fz 3
  have own10:=q2j own9 (show bk<w8.heap.size from hk8) (j:=3) (.int .i64 (gN l 14 4:Int))
  have bs10:=q1g w9 bk 3 (.int .i64 (gN l 14 4:Int))
  have V10:=V9.set3 (gN l 14 4:Int)
  have Z10:=Z9.below bs10 (by omega)
  have B10:=B9.trans (bs10.mono (by omega))
  have u0:=V10.c0
  have u1:=V10.c1
  have u2:=V10.c2
  have u3:=V10.c3
  have hz9:=hb9.size
  have hw8:w.heap.size<w8.heap.size:=by omega
  clear own9 bs10 V9 Z9 B9 own8 V8 Z8 B8 z8
  go_wp2_with (first
   |(refine qfw rfl _ _ rfl w.heap.size rfl ⟨nm,ro,(gN l 12 2:Int),(gN l 14 4:Int)⟩ Vl.zero rfl Z10 ?_;intro w11 V11 hb11 T11)
   |fail)
  have own11:=own10.turn (w':=w11) fun g hg hl=>T11.block g hl (by show ¬g=w.heap.size;omega)
  have B11:=B10.trans (hb11 _ (Nat.le_refl _))
  have hrd:rdV l=⟨nm,ro,(gN l 12 2:Int),(gN l 14 4:Int)⟩:=by unfold rdV;rw[Hnm.out,Hro.out]
  refine bodyPost_ret (q0w Tryz.results213 rfl (qsa V11)) rfl ?_
  rw[hrd]
  exact⟨A9,n9,c9,rfl,own11.less (by omega),⟨by omega,by omega⟩,B11⟩
section
def rdTo7 (g:Int)(l:List UInt8)(k:Nat):Sp:=⟨g,(gN l 0 2:Int),(gN l 2 2:Int),(List.range 8).map (fun i=>if i<k then rdV (l.drop (4+18*i)) else Vl.zero),by simp⟩
def rdS (g:Int)(l:List UInt8):Sp:=rdTo7 g l 8
def sp0 (g a b:Int):Sp:=⟨g,a,b,List.replicate 8 Vl.zero,rfl⟩
theorem qji (g:Int)(l:List UInt8):rdTo7 g l 0=sp0 g (gN l 0 2:Int) (gN l 2 2:Int):=rfl
theorem qjj (g:Int)(l:List UInt8){k:Nat}(_hk:k<8):(rdTo7 g l k).setV k (rdV (l.drop (4+18*k)))=rdTo7 g l (k+1):=by
 refine Sp.ext' rfl rfl rfl ?_
 show (((List.range 8).map (fun i=>if i<k then rdV (l.drop (4+18*i)) else Vl.zero)).set k (rdV (l.drop (4+18*k))))=(List.range 8).map (fun i=>if i<k+1 then rdV (l.drop (4+18*i)) else Vl.zero)
 refine List.ext_getElem (by simp) fun i h1 h2=>?_
 have hi:i<8:=by simpa using h2
 rw[List.getElem_set]
 by_cases h:k=i
 ·subst h
  simp
 ·rw[if_neg h]
  simp only[List.getElem_map,List.getElem_range]
  by_cases h3:i<k
  ·rw[if_pos h3,if_pos (by omega)]
  ·rw[if_neg h3,if_neg (by omega)]
theorem qpa (g:Int)(l:List UInt8)(k:Nat){i:Nat}(hi:i<8):(rdTo7 g l k).at_ i=if i<k then rdV (l.drop (4+18*i)) else Vl.zero:=by
 have h:=(rdTo7 g l k).get hi
 have h2:(rdTo7 g l k).vols[i]?=some (if i<k then rdV (l.drop (4+18*i)) else Vl.zero):=by
  show ((List.range 8).map (fun i=>if i<k then rdV (l.drop (4+18*i)) else Vl.zero))[i]?=_
  rw[List.getElem?_map,List.getElem?_range hi]
  rfl
 rw[h] at h2
 exact Option.some.inj h2
theorem qpb (g:Int)(l:List UInt8):(rdS g l).fine:=fun k hk=>by
 unfold rdS
 rw[qpa g l 8 hk,if_pos hk]
 have:=qhe (l.drop (4+18*k))
 unfold maxLen
 show (rdN _).size≤_
 omega
theorem SB.set1 {w:World}{b:Nat}{S:Sp}(H:SB w b S)(x:Int):SB (w.setCell ⟨b,1,none⟩ (.int .i64 x)) b ⟨S.gen,x,S.log,S.vols,S.len⟩:=by
 obtain⟨t,H⟩:=H
 exact⟨t,heap_setCell_same w b 1 _ t _ H⟩
theorem SB.set2 {w:World}{b:Nat}{S:Sp}(H:SB w b S)(x:Int):SB (w.setCell ⟨b,2,none⟩ (.int .i64 x)) b ⟨S.gen,S.sectors,x,S.vols,S.len⟩:=by
 obtain⟨t,H⟩:=H
 exact⟨t,heap_setCell_same w b 2 _ t _ H⟩
theorem q3r {ops:Array Oper}{rest:List Oper}{o:Oper}{a:Act}{w:World}{Q:Exit→Act→World→Prop}(hg:o.guard=none)(x y:Operand)(hop:o.op=Op.store 32 x y)
  (b k:Nat) (hk:k<8) (hx:a.eval x=.pointer (some ⟨b,3+k*4,none⟩)) (v:Vl) (S:Sp) (hy:a.eval y=v.v) (H:SB w b S)
  (hK:∀w',SB w' b (S.setV k v)→(∀B,B≤b→Below B w w')→Turn (fun k=>k=b) w w'→wpList Tryz.prog ops Q rest (a.put o.dst undef) w'):wpList Tryz.prog ops Q (o::rest) a w:=
 qfv hg x y hop b k hk (by rw[hx,Nat.mul_comm]) v S hy H hK
def alS (h:Bool)(old:Value):Sem Value:=Instr.alloc 56 h old
theorem q20 (h:Bool)(old:Value):Instr.alloc 56 h old=alS h old:=rfl
def bdS (parts:Array (Nat × Value)):Sem Value:=Instr.build 56 parts
theorem q54 (parts:Array (Nat × Value)):Instr.build 56 parts=bdS parts:=rfl
theorem q21 (h:Bool)(w:World):(alS h (.tuple #[])).run Tryz.prog w=.ok (.pointer (some ⟨w.heap.size,0,none⟩)) (w.alloc (.cells Sp.zero.vs.toArray 56)):=by
 cases h
 ·show (Instr.alloc 56 false (.tuple #[])).run Tryz.prog w=_;kernel_rfl
 ·show (Instr.alloc 56 true (.tuple #[])).run Tryz.prog w=_;kernel_rfl
theorem q82 (w:World):(bdS #[]).run Tryz.prog w=.ok (.agg Sp.zero.vs.toArray) w:=by
 show (Instr.build 56 #[]).run Tryz.prog w=_;kernel_rfl
theorem qlq (g:Int)(w:World):(bdS #[(0,.int .i64 g)]).run Tryz.prog w=.ok (.agg (sp0 g 0 0).vs.toArray) w:=by
 show (Instr.build 56 #[(0,.int .i64 g)]).run Tryz.prog w=_;kernel_rfl
attribute [local go_sem ↓] q14 q3q q20 q54
theorem qc1 (g:Int)(A:Option Addr)(n c:Nat)(l:List UInt8)(w:World)(hs:Sl w A n c l)(hn:148≤n)(hn2:n≤1000) :
  Calls Tryz.prog 191 #[.int .i64 g,.slice A n c] w fun e w'=>e=.returned (.agg (rdS g l).vs.toArray)∧Below w.heap.size w w':=by
 have hal:=q21
 have hbd:=qlq g
 have Z1:=SB.new w Sp.zero 56
 have b1:Below w.heap.size w (w.alloc (.cells Sp.zero.vs.toArray 56)):=blA
 have z1:(w.alloc (.cells Sp.zero.vs.toArray 56)).heap.size=w.heap.size+1:=by simp
 have H2:=SB.new (w.alloc (.cells Sp.zero.vs.toArray 56)) Sp.zero 56
 rw[z1] at H2
 go_enter Tryz.func191,Tryz.ntmps191
 go_wp2_with (first
  |(refine q03 rfl _ _ rfl (w.heap.size+1) rfl (sp0 g 0 0) Sp.zero rfl H2 ?_;intro w3 H3 hb3 T3)
  |fail)
 have b2:Below (w.alloc (.cells Sp.zero.vs.toArray 56)).heap.size (w.alloc (.cells Sp.zero.vs.toArray 56)) ((w.alloc (.cells Sp.zero.vs.toArray 56)).alloc (.cells Sp.zero.vs.toArray 56)):=blA
 rw[z1] at b2
 have b3:=b2.trans (hb3 _ (Nat.le_refl _))
 have Z3:=Z1.below b3 (by omega)
 have B3:=b1.trans (b3.mono (by omega))
 obtain⟨bk,hbk⟩:∃bk,w.heap.size+1=bk:=⟨_,rfl⟩
 rw[hbk] at H3 ⊢
 have hwb:w.heap.size<bk:=by omega
 have hs3:=hs.below B3
 clear Z1 b1 z1 H2 hb3 T3 b2 b3 hbk hal hbd
 refine (ctake (l0:=l) 0 2 n hs3 2 rfl (by omega) (by omega) (by omega) (by omega)).mono ?_
 rintro e w4 ⟨A4,n4,c4,rfl,own4,hn4,hb4⟩
 have H4:=H3.below hb4 H3.lt
 have Z4:=Z3.below hb4 Z3.lt
 have B4:=B3.trans (hb4.mono B3.size)
 have q4:=H4.c1
 have f4:=H4.fz 1
 obtain⟨x0,hx0⟩:∃x0:Int,(gN l 0 2:Int)=x0:=⟨_,rfl⟩
 rw[hx0]
 have own5:=q2j own4 (show bk<w3.heap.size from H3.lt) (j:=1) (.int .i64 x0)
 have bs5:=q1g w4 bk 1 (.int .i64 x0)
 have H5:=H4.set1 x0
 have Z5:=Z4.below bs5 (by omega)
 have B5:=B4.trans (bs5.mono (by omega))
 have z5:(w4.setCell ⟨bk,1,none⟩ (.int .i64 x0)).heap.size=w4.heap.size:=World.size_setCell ..
 go_wp2_with fail
 clear own4 bs5 q4 f4 H4 Z4 B4 H3 Z3 B3 hs3
 have hz4:=hb4.size
 generalize w4.setCell ⟨bk,1,none⟩ (.int .i64 x0)=w5 at own5 H5 Z5 B5 z5 ⊢
 refine (ctake (l0:=l) 2 2 n4 own5.sl 2 rfl (by omega) (by omega) (by omega) (by omega)).mono ?_
 rintro e w6 ⟨A6,n6,c6,rfl,own6,hn6,hb6⟩
 have H6:=H5.below hb6 H5.lt
 have Z6:=Z5.below hb6 Z5.lt
 have B6:=B5.trans (hb6.mono B5.size)
 have q6:=H6.c2
 have f6:=H6.fz 2
 obtain⟨y0,hy0⟩:∃y0:Int,(gN l 2 2:Int)=y0:=⟨_,rfl⟩
 rw[hy0]
 have own7:=q2j own6 (show bk<w5.heap.size from H5.lt) (j:=2) (.int .i64 y0)
 have bs7:=q1g w6 bk 2 (.int .i64 y0)
 have H7:=H6.set2 y0
 have Z7:=Z6.below bs7 (by omega)
 have B7:=B6.trans (bs7.mono (by omega))
 have z7:(w6.setCell ⟨bk,2,none⟩ (.int .i64 y0)).heap.size=w6.heap.size:=World.size_setCell ..
 go_wp2_with fail
 clear own6 bs7 q6 f6 H6 Z6 B6 H5 Z5 B5
 have hn7:n6+4≤n∧n≤n6+4:=by omega
 have e7:∀H:Sp,SB (w6.setCell ⟨bk,2,none⟩ (.int .i64 y0)) bk H→H=sp0 g x0 y0→SB (w6.setCell ⟨bk,2,none⟩ (.int .i64 y0)) bk (rdTo7 g l 0):=fun H h e=>by
  rw[qji,hx0,hy0,←e]
  exact h
 have H7:=e7 _ H7 rfl
 generalize w6.setCell ⟨bk,2,none⟩ (.int .i64 y0)=w7 at own7 H7 Z7 B7 z7 e7 ⊢
 have sl7:Sl w7 A6 n6 c6 (l.drop (4+18*0)):=own7.sl
 clear e7 own7 hb6 hb4 hx0 hy0 z7 z5 hn6 hn4 hz4
 go_loopw [1,23] (fun b i wr=>∃(k m:Nat) (A:Option Addr) (c:Nat),k≤8∧n≤m+4+18*k∧m≤n∧b=.slice A m c∧i=.int .i64 (k:Int)∧Sl wr A m c (l.drop (4+18*k))∧SB wr bk (rdTo7 g l k)∧SB wr w.heap.size Sp.zero∧Below w.heap.size w wr) (fun _ i _=>8-(intOf i).toNat)
 case atStart=>exact⟨0,n6,A6,c6,by omega,by omega,by omega,rfl,rfl,sl7,H7,Z7,B7⟩
 case round=>
  clear sl7 H7 Z7 B7
  obtain⟨k,m,A,c,hk,hm1,hm2,rfl,rfl,sl,H,Z,hB⟩:=hrel
  by_cases hlt:k<8
  ·have hk0:(0:Int)≤(k:Int):=by omega
   have hnx:=Lib.hid (qjj g l hlt)
   go_wp2_with fail
   refine (qfy A m c _ wr sl (by omega) (by omega)).mono ?_
   rintro e w8 ⟨A8,n8,c8,rfl,own8,hn8,hb8⟩
   have H8:=H.below hb8 H.lt
   have Z8:=Z.below hb8 Z.lt
   have B8:=hB.trans (hb8.mono hB.size)
   rw[List.drop_drop,show 4+18*k+18=4+18*(k+1) by omega] at own8
   have hlk:=H.lt
   have hn9:n≤n8+4+18*(k+1):=by omega
   have hn10:n8≤n:=by omega
   clear H Z hB sl hn8
   obtain⟨v,hv⟩:∃v,rdV (l.drop (4+18*k))=v:=⟨_,rfl⟩
   have Hnx:=Lib.hid (show (rdTo7 g l k).setV k v=rdTo7 g l (k+1) by rw[←hv];exact hnx.out)
   rw[hv]
   clear hv hnx
   go_wp2_with (first
    |(refine q3r rfl _ _ rfl bk k hlt rfl v (rdTo7 g l k) rfl H8 ?_;intro w9 H9 hb9 T9)
    |fail)
   rw[Hnx.out] at H9
   have own9:=own8.turn (w':=w9) fun q hq hl=>T9.block q hl (by show ¬q=bk;omega)
   have Z9:=Z8.below (hb9 bk (Nat.le_refl _)) hwb
   have B9:=B8.trans (hb9 _ (by omega))
   clear Hnx H8 Z8 B8 own8 T9 hb9
   go_wp2
   exact⟨⟨k+1,n8,A8,c8,by omega,hn9,hn10,rfl,by go_num,own9.sl,H9,Z9,B9⟩,by simp[intOf];omega⟩
  ·have hk8:k=8:=by omega
   subst hk8
   have H:SB wr bk (rdS g l):=H
   have hld:=H.ld
   go_wp2_with (first
    |(refine q03 rfl _ _ rfl w.heap.size rfl (rdS g l) Sp.zero rfl Z ?_;intro w9 H9 hb9 T9)
    |fail)
   refine bodyPost_ret (q0n Tryz.results191 rfl (q19 H9)) rfl ?_
   exact⟨rfl,hB.trans (hb9 _ (Nat.le_refl _))⟩
end
section
def hdS (S:Sp)(slot:Int):Hd:=⟨1,slot,0,0,S.gen⟩
def swOk (S:Sp)(slot:Int):Bool:=S.may&&decide (0≤slot∧slot≤1)
def swE (S:Sp)(slot:Int):Int:=if swOk S slot=true then 0 else 1
def swB (S:Sp)(slot:Int):List UInt8:=if swOk S slot=true then blkL (hdS S slot) (bodyB S) else []
theorem q12 {S:Sp}(h:S.may=true):(1≤S.gen∧S.gen≤1099511627775∧32≤S.sectors∧S.sectors≤2048∧0≤S.log∧S.log≤S.sectors-1)∧∀j,j<8→S.ok1 j=true:=by
 unfold Sp.may at h
 rw[Bool.and_eq_true] at h
 exact⟨of_decide_eq_true h.1,fun j hj=>List.all_eq_true.1 h.2 j (List.mem_range.2 hj)⟩
theorem qhf {s:ByteArray}(h:labL s=true):1≤s.size∧s.size≤10:=by
 unfold labL at h
 rw[Bool.and_eq_true] at h
 exact of_decide_eq_true h.2
theorem qdu {S:Sp}{j:Nat}(h:S.ok1 j=true):S.at_ j=Vl.zero∨(labL (S.at_ j).name=true∧(0≤(S.at_ j).root∧(S.at_ j).root≤S.sectors-1)∧(2≤(S.at_ j).next∧(S.at_ j).next≤2147483647)):=by
 unfold Sp.ok1 at h
 rw[Bool.or_eq_true] at h
 rcases h with h|h
 ·exact .inl ((Vl.same_iff _ _).1 h)
 ·rw[Bool.and_eq_true] at h
  have h:=h.1
  unfold Vl.ok at h
  rw[Bool.and_eq_true,Bool.and_eq_true] at h
  exact .inr ⟨h.1,of_decide_eq_true h.2.1,of_decide_eq_true h.2.2⟩
theorem q4m {S:Sp}(h:S.may=true):∀j,j<8→(S.at_ j).name.size≤10:=fun j hj=>by
 rcases qdu ((q12 h).2 j hj) with e|⟨h,_⟩
 ·rw[e];show 0≤10;omega
 ·exact (qhf h).2
theorem qlr {S:Sp}{slot:Int}(h:swOk S slot=true):(hdS S slot).ok=true:=by
 unfold swOk at h
 rw[Bool.and_eq_true] at h
 have h1:=(q12 h.1).1
 have h2:=of_decide_eq_true h.2
 refine decide_eq_true ⟨⟨?_,?_⟩,⟨?_,?_⟩,⟨?_,?_⟩,⟨?_,?_⟩,?_,?_⟩<;>(dsimp only[hdS];omega)
theorem q6a {S:Sp}(h:S.may=true):(bodyB S).length=148:=bodyTo_len S 8 (by omega) (q4m h)
theorem qai {S:Sp}{slot:Int}(h:swOk S slot=true):swE S slot=0∧swB S slot=blkL (hdS S slot) (bodyB S)∧sealE (hdS S slot) (bodyB S)=0∧sealB (hdS S slot) (bodyB S)=blkL (hdS S slot) (bodyB S):=by
 have hm:S.may=true:=by unfold swOk at h;rw[Bool.and_eq_true] at h;exact h.1
 have hl:=q6a hm
 unfold swE swB sealE sealB
 rw[if_pos h,if_pos h,if_pos (qlr h),if_pos (by omega),if_pos (qlr h),if_pos (by omega)]
 exact⟨rfl,rfl,rfl,rfl⟩
theorem qjk {S:Sp}{slot:Int}(h:swOk S slot=false):swE S slot=1∧swB S slot=[]:=by
 unfold swE swB
 rw[h]
 exact⟨rfl,rfl⟩
attribute [local go_sem ↓] q14 q3q
theorem q71 (S:Sp)(slot:Int)(hf:S.fine)(w:World)(ht:Tab w) :
  Calls Tryz.prog 122 #[.agg S.vs.toArray,.int .i64 slot] w fun e w'=>
   ∃A' n' c',e=.returned (.tuple #[.slice A' n' c',.int .i64 (swE S slot)])∧Own w' w.heap.size 5 A' n' c' (swB S slot)∧(swOk S slot=true→∃g,A'=some ⟨g,0,none⟩∧n'=256∧c'=256)∧Below w.heap.size w w':=by
 have H1:=SB.new w S 56
 have b1:Below w.heap.size w (w.alloc (.cells S.vs.toArray 56)):=blA
 have t1:=ht.below b1 ht.1
 have hl1:=H1.ld
 obtain⟨m,hm⟩:∃m,S.may=m:=⟨_,rfl⟩
 go_enter Tryz.func122,Tryz.ntmps122
 go_wp2_with fail
 generalize w.alloc (.cells S.vs.toArray 56)=w1 at H1 b1 hl1 t1 ⊢
 refine (qbz S m hm hf w1).mono ?_
 rintro e w2 ⟨rfl,hb2⟩
 have H2:=H1.below hb2 H1.lt
 have B2:=b1.trans (hb2.mono b1.size)
 have t2:=t1.below hb2 t1.1
 have hl2:=H2.ld
 have q2:=H2.c0
 clear H1 hl1 hb2 t1
 cases m
 ·obtain⟨h1,h2⟩:=qjk (S:=S) (slot:=slot) (by unfold swOk;rw[hm];rfl)
  have hno:swOk S slot=false:=by unfold swOk;rw[hm];rfl
  go_wp2
  go_ret2
  rw[h1,h2,hno]
  exact⟨_,_,_,rfl,q1k _ _ _,fun h=>(by cases h),B2⟩
 ·go_wp2_with fail
  by_cases hsl:0≤slot∧slot≤1
  ·have hok:swOk S slot=true:=by unfold swOk;rw[hm,decide_eq_true hsl];rfl
   obtain⟨h1,h2,h3,h4⟩:=qai hok
   have h1h:=Lib.hid h1
   have h2h:=Lib.hid h2
   have hokh:=Lib.hid hok
   refine (q0x slot 0 1 true (decide_eq_true hsl) _).mono ?_
   rintro e w3 ⟨rfl,rfl⟩
   go_wp2_with fail
   have hS:∀w':World,Below w2.heap.size w2 w'→w'.cell? ⟨w.heap.size,0,none⟩=some (.int .i64 S.gen)∧(ldS (.pointer (some ⟨w.heap.size,0,none⟩))).run Tryz.prog w'=.ok (.agg S.vs.toArray) w'∧Below w2.heap.size w2 w':=
    fun w' hb=>⟨(hb.cell (p:=⟨w.heap.size,0,none⟩) H2.lt).trans q2,(H2.below hb H2.lt).ld,hb⟩
   have BD:Below w2.heap.size w2 w2.drew:=(Below.refl _ _).drew
   have zd:w2.heap.size≤w2.drew.heap.size:=Nat.le_refl _
   have hvn:=q4m hm
   clear hsl h1 h2 hl2 hok
   go_region_held3 (fun w'=>w'.cell? ⟨w.heap.size,0,none⟩=some (.int .i64 S.gen)∧(ldS (.pointer (some ⟨w.heap.size,0,none⟩))).run Tryz.prog w'=.ok (.agg S.vs.toArray) w'∧Below w2.heap.size w2 w')
    (first|assumption|exact hS _ BD|exact hS _ bb3|exact hS _ bb4)
    (first
     |(go_at_call 175;refine (qlp S hvn _).mono ?_;rintro e w3 ⟨A3,n3,c3,rfl,own3',hb3⟩;have own3:Own w3 w2.heap.size 5 A3 n3 c3 _:=own3';have bb3:Below w2.heap.size w2 w3:=BD.trans (hb3.mono zd))
     |(go_at_call 90;refine (q42 (hdS S slot) A3 n3 c3 _ w3 own3.sl (t2.below bb3 t2.1)).mono ?_;rw[h3,h4];rintro e w4 ⟨A4,n4,c4,rfl,own4,hg4,hb4⟩;have bb4:Below w2.heap.size w2 w4:=bb3.trans (hb4.mono (Below.size bb3)))
     |fail)
   go_wp2
   go_ret2
   rw[h1h.out,h2h.out]
   exact⟨_,_,_,rfl,(own4.less (Below.size bb3)).less B2.size,fun _=>hg4 (by first|trivial|rfl),B2.trans (bb4.mono B2.size)⟩
  ·have hno:swOk S slot=false:=by unfold swOk;rw[hm,decide_eq_false hsl];rfl
   obtain⟨h1,h2⟩:=qjk hno
   refine (q0x slot 0 1 false (decide_eq_false hsl) _).mono ?_
   rintro e w3 ⟨rfl,rfl⟩
   go_wp2
   go_ret2
   rw[h1,h2,hno]
   exact⟨_,_,_,rfl,q1k _ _ _,fun h=>(by cases h),B2⟩
end
theorem SB.four {w:World}{b:Nat}{S:Sp}(H:SB w b S){k:Nat}(hk:k<8):w.cell? ⟨b,3+k*4,none⟩=some (.string (S.at_ k).name)∧w.cell? ⟨b,3+k*4+1,none⟩=some (.bool (S.at_ k).ro)∧w.cell? ⟨b,3+k*4+2,none⟩=some (.int .i64 (S.at_ k).root)∧w.cell? ⟨b,3+k*4+3,none⟩=some (.int .i64 (S.at_ k).next):=by
 have h:=H.vol hk
 rw[show 3+4*k=3+k*4 by omega] at h
 exact⟨h 0 _ rfl,h 1 _ rfl,h 2 _ rfl,h 3 _ rfl⟩
theorem qdv (S:Sp){k q:Nat}(hq:q<k):vlAt (S.vols.take k) q=S.at_ q:=by
 unfold vlAt Sp.at_
 rw[List.getD_eq_getElem?_getD,List.getD_eq_getElem?_getD,List.getElem?_take_of_lt hq]
theorem qhg (S:Sp){k:Nat}(hk:k<8):(S.vols.take k).length=k:=by rw[List.length_take,S.len];omega
theorem q2n {a b:Prop}[Decidable a][Decidable b](h:¬(a∧b)):(decide a&&decide b)=false:=by
 rw[Bool.eq_false_iff]
 intro h2
 rw[Bool.and_eq_true,decide_eq_true_eq,decide_eq_true_eq] at h2
 exact h h2
theorem q5v (S:Sp)(r:Bool)(hr:S.may=r)(hf:S.fine)(w:World) :
  Calls Tryz.prog 109 #[.agg S.vs.toArray] w fun e w'=>e=.returned (.bool r)∧Below w.heap.size w w':=by
 subst hr
 have H1:=SB.new w S 56
 have b1:Below w.heap.size w (w.alloc (.cells S.vs.toArray 56)):=blA
 have q0:=H1.c0
 have q1:=H1.c1
 have q2:=H1.c2
 rcases (by omega:(S.gen<1)∨(¬(S.gen<1)∧1099511627775<S.gen)∨(¬(S.gen<1)∧¬(1099511627775<S.gen)∧S.sectors<32)∨(¬(S.gen<1)∧¬(1099511627775<S.gen)∧¬(S.sectors<32)∧2048<S.sectors)∨(¬(S.gen<1)∧¬(1099511627775<S.gen)∧¬(S.sectors<32)∧¬(2048<S.sectors)∧S.log<0)∨(¬(S.gen<1)∧¬(1099511627775<S.gen)∧¬(S.sectors<32)∧¬(2048<S.sectors)∧¬(S.log<0)∧S.sectors≤S.log)∨(¬(S.gen<1)∧¬(1099511627775<S.gen)∧¬(S.sectors<32)∧¬(2048<S.sectors)∧¬(S.log<0)∧¬(S.sectors≤S.log))) with h|h|h|h|h|h|h
 all_goals go_enter Tryz.func109,Tryz.ntmps109
 ·have d0:decide (S.gen<1)=true:=decide_eq_true (by omega)
  have Hno:=Lib.hid (q69 (S:=S) (decide_eq_false (by omega)))
  clear h
  go_wp2_with fail
  go_ret
  exact⟨by rw[Hno.out];rfl,b1⟩
 ·have d0:decide (S.gen<1)=false:=decide_eq_false (by omega)
  have d1:decide (1099511627775<S.gen)=true:=decide_eq_true (by omega)
  have Hno:=Lib.hid (q69 (S:=S) (decide_eq_false (by omega)))
  clear h
  go_wp2_with fail
  go_ret
  exact⟨by rw[Hno.out];rfl,b1⟩
 ·have d0:decide (S.gen<1)=false:=decide_eq_false (by omega)
  have d1:decide (1099511627775<S.gen)=false:=decide_eq_false (by omega)
  have d2:decide (S.sectors<32)=true:=decide_eq_true (by omega)
  have Hno:=Lib.hid (q69 (S:=S) (decide_eq_false (by omega)))
  clear h
  go_wp2_with fail
  go_ret
  exact⟨by rw[Hno.out];rfl,b1⟩
 ·have d0:decide (S.gen<1)=false:=decide_eq_false (by omega)
  have d1:decide (1099511627775<S.gen)=false:=decide_eq_false (by omega)
  have d2:decide (S.sectors<32)=false:=decide_eq_false (by omega)
  have d3:decide (2048<S.sectors)=true:=decide_eq_true (by omega)
  have Hno:=Lib.hid (q69 (S:=S) (decide_eq_false (by omega)))
  clear h
  go_wp2_with fail
  go_ret
  exact⟨by rw[Hno.out];rfl,b1⟩
 ·have d0:decide (S.gen<1)=false:=decide_eq_false (by omega)
  have d1:decide (1099511627775<S.gen)=false:=decide_eq_false (by omega)
  have d2:decide (S.sectors<32)=false:=decide_eq_false (by omega)
  have d3:decide (2048<S.sectors)=false:=decide_eq_false (by omega)
  have d4:decide (S.log<0)=true:=decide_eq_true (by omega)
  have Hno:=Lib.hid (q69 (S:=S) (decide_eq_false (by omega)))
  clear h
  go_wp2_with fail
  go_ret
  exact⟨by rw[Hno.out];rfl,b1⟩
 ·have d0:decide (S.gen<1)=false:=decide_eq_false (by omega)
  have d1:decide (1099511627775<S.gen)=false:=decide_eq_false (by omega)
  have d2:decide (S.sectors<32)=false:=decide_eq_false (by omega)
  have d3:decide (2048<S.sectors)=false:=decide_eq_false (by omega)
  have d4:decide (S.log<0)=false:=decide_eq_false (by omega)
  have d5:decide (S.sectors≤S.log)=true:=decide_eq_true (by omega)
  have Hno:=Lib.hid (q69 (S:=S) (decide_eq_false (by omega)))
  clear h
  go_wp2_with fail
  go_ret
  exact⟨by rw[Hno.out];rfl,b1⟩
 ·have d0:decide (S.gen<1)=false:=decide_eq_false (by omega)
  have d1:decide (1099511627775<S.gen)=false:=decide_eq_false (by omega)
  have d2:decide (S.sectors<32)=false:=decide_eq_false (by omega)
  have d3:decide (2048<S.sectors)=false:=decide_eq_false (by omega)
  have d4:decide (S.log<0)=false:=decide_eq_false (by omega)
  have d5:decide (S.sectors≤S.log)=false:=decide_eq_false (by omega)
  have hhd:S.hd=true:=decide_eq_true (by omega)
  have Hyes:=Lib.hid (fun h=>qbx (S:=S) hhd h)
  go_wp2_with fail
  generalize w.alloc (.cells S.vs.toArray 56)=w1 at H1 b1 q0 q1 q2 ⊢
  go_loopw [3] (fun i wr=>∃k:Nat,k≤8∧i=.int .i64 (k:Int)∧(∀j<k,S.ok1 j=true)∧Below w1.heap.size w1 wr) (fun i _=>8-(intOf i).toNat)
  case atStart=>exact⟨0,by omega,rfl,fun j hj=>by omega,Below.refl _ _⟩
  case round=>
   obtain⟨k,hk,rfl,hall,hB⟩:=hrel
   by_cases hlt:k<8
   ·have hk0:(0:Int)≤(k:Int):=by omega
    have Hr:=H1.below hB H1.lt
    obtain⟨c0,c1,c2,c3⟩:=Hr.four hlt
    obtain⟨x,hx⟩:∃x,S.at_ k=x:=⟨_,rfl⟩
    have hsz:=hf k hlt
    rw[hx] at c0 c1 c2 c3 hsz
    have hok1:=Lib.hid (show S.ok1 k=(x.same Vl.zero||(x.ok S.sectors&&!namedL (S.vols.take k) x.name)) by unfold Sp.ok1;rw[hx])
    clear hx
    have hG:=qr9
    have bx:Below wr.heap.size wr (wr.alloc (.cells #[.string x.name,.bool x.ro,.int .i64 x.root,.int .i64 x.next] 32)):=blA
    have hBx:=hB.trans (bx.mono hB.size)
    obtain⟨z,hz⟩:∃z,x.same Vl.zero=z:=⟨_,rfl⟩
    have heql:=quo x z hz
    cases z
    ·go_wp2_with fail
     have x0:(wr.alloc (.cells #[.string x.name,.bool x.ro,.int .i64 x.root,.int .i64 x.next] 32)).heap[wr.heap.size]?=some (.cells #[.string x.name,.bool x.ro,.int .i64 x.root,.int .i64 x.next] 32 (0,0)):=heap_alloc_new wr _
     have zx:wr.heap.size<(wr.alloc (.cells #[.string x.name,.bool x.ro,.int .i64 x.root,.int .i64 x.next] 32)).heap.size:=by simp
     have Hx:=Hr.below bx Hr.lt
     generalize wr.alloc (.cells #[.string x.name,.bool x.ro,.int .i64 x.root,.int .i64 x.next] 32)=wx at bx x0 zx hBx Hx ⊢
     have p0:wx.cell? ⟨wr.heap.size,0,none⟩=some (.string x.name):=by rw[cell_of_row _ _ _ _ _ _ x0];rfl
     have p1:wx.cell? ⟨wr.heap.size,1,none⟩=some (.bool x.ro):=by rw[cell_of_row _ _ _ _ _ _ x0];rfl
     have p2:wx.cell? ⟨wr.heap.size,2,none⟩=some (.int .i64 x.root):=by rw[cell_of_row _ _ _ _ _ _ x0];rfl
     have p3:wx.cell? ⟨wr.heap.size,3,none⟩=some (.int .i64 x.next):=by rw[cell_of_row _ _ _ _ _ _ x0];rfl
     have p4:=Hx.c1
     obtain⟨bk,hbk⟩:∃bk,wr.heap.size=bk:=⟨_,rfl⟩
     rw[hbk] at p0 p1 p2 p3 zx ⊢
     have hBl:=hBx
     clear c0 c1 c2 c3 x0 q0 q1 q2 heql
     obtain⟨a,hlab⟩:∃a,labL x.name=a:=⟨_,rfl⟩
     refine (qdr x.name a hlab wx hsz).mono ?_
     rintro e w2 ⟨rfl,rfl⟩
     cases a
     ·have hno:=Lib.hid (q7n (S:=S) hlt (by rw[hok1.out,hz];unfold Vl.ok;rw[hlab];rfl))
      go_wp2_with fail
      go_ret
      exact⟨by rw[hno.out];rfl,b1.trans (hBl.mono b1.size)⟩
     ·rcases (by omega:(x.root<0)∨(¬(x.root<0)∧S.sectors≤x.root)∨(¬(x.root<0)∧¬(S.sectors≤x.root)∧x.next<2)∨(¬(x.root<0)∧¬(S.sectors≤x.root)∧¬(x.next<2)∧2147483647<x.next)∨(¬(x.root<0)∧¬(S.sectors≤x.root)∧¬(x.next<2)∧¬(2147483647<x.next))) with h9|h9|h9|h9|h9
      ·have e0:decide (x.root<0)=true:=decide_eq_true (by omega)
       have hno:=Lib.hid (q7n (S:=S) hlt (by rw[hok1.out,hz];unfold Vl.ok;rw[hlab,q2n (by omega)];rfl))
       clear h9
       go_wp2_with fail
       go_ret
       exact⟨by rw[hno.out];rfl,b1.trans (hBl.mono b1.size)⟩
      ·have e0:decide (x.root<0)=false:=decide_eq_false (by omega)
       have e1:decide (S.sectors≤x.root)=true:=decide_eq_true (by omega)
       have hno:=Lib.hid (q7n (S:=S) hlt (by rw[hok1.out,hz];unfold Vl.ok;rw[hlab,q2n (by omega)];rfl))
       clear h9
       go_wp2_with fail
       go_ret
       exact⟨by rw[hno.out];rfl,b1.trans (hBl.mono b1.size)⟩
      ·have e0:decide (x.root<0)=false:=decide_eq_false (by omega)
       have e1:decide (S.sectors≤x.root)=false:=decide_eq_false (by omega)
       have e2:decide (x.next<2)=true:=decide_eq_true (by omega)
       have hno:=Lib.hid (q7n (S:=S) hlt (by rw[hok1.out,hz];unfold Vl.ok;rw[hlab,q2n (by omega)];rfl))
       clear h9
       go_wp2_with fail
       go_ret
       exact⟨by rw[hno.out];rfl,b1.trans (hBl.mono b1.size)⟩
      ·have e0:decide (x.root<0)=false:=decide_eq_false (by omega)
       have e1:decide (S.sectors≤x.root)=false:=decide_eq_false (by omega)
       have e2:decide (x.next<2)=false:=decide_eq_false (by omega)
       have e3:decide (2147483647<x.next)=true:=decide_eq_true (by omega)
       have hno:=Lib.hid (q7n (S:=S) hlt (by rw[hok1.out,hz];unfold Vl.ok;rw[hlab,q2n (by omega)];rfl))
       clear h9
       go_wp2_with fail
       go_ret
       exact⟨by rw[hno.out];rfl,b1.trans (hBl.mono b1.size)⟩
      ·have e0:decide (x.root<0)=false:=decide_eq_false (by omega)
       have e1:decide (S.sectors≤x.root)=false:=decide_eq_false (by omega)
       have e2:decide (x.next<2)=false:=decide_eq_false (by omega)
       have e3:decide (2147483647<x.next)=false:=decide_eq_false (by omega)
       have hok:=Lib.hid (show x.ok S.sectors=true by unfold Vl.ok;rw[hlab,decide_eq_true (by omega),decide_eq_true (by omega)];rfl)
       clear h9
       go_wp2_with fail
       go_loopw [6] (fun i wq=>∃q:Nat,q≤k∧i=.int .i64 (q:Int)∧(∀j<q,((S.at_ j).name.toList==x.name.toList)=false)∧Below wx.heap.size wx wq) (fun i _=>k-(intOf i).toNat)
       case atStart=>exact⟨0,by omega,rfl,fun j hj=>by omega,Below.refl _ _⟩
       case round=>
        obtain⟨q,hq,rfl,hqa,hBq⟩:=hrel
        have hq0:(0:Int)≤(q:Int):=by omega
        have hBw:=hBl.trans (hBq.mono hBl.size)
        by_cases hlq:q<k
        ·have hq8:(q:Int)<8:=by omega
         have n0:=((Hx.below hBq Hx.lt).four (show q<8 by omega)).1
         have n1:=(hBq.cell (p:=⟨bk,0,none⟩) zx).trans p0
         have hnm:=qds (l:=S.vols.take k) (s:=x.name) (j:=q) (by rw[qhg S hlt];exact hlq)
         rw[qdv S hlq] at hnm
         obtain⟨y,hy⟩:∃y,S.at_ q=y:=⟨_,rfl⟩
         have Hy:=Lib.hid hy
         rw[hy] at n0 hnm
         clear hy
         cases hs:y.name.toList==x.name.toList
         ·go_wp2_with fail
          go_quiet (fail)
          generalize hwz:World.drewN wr _=wz
          have hBz:Below wx.heap.size wx wz:=by rw[←hwz];exact q0u hBq _
          clear hwz
          go_wp2
          refine⟨⟨q+1,by omega,by go_num,fun j hj=>?_,hBz⟩,by simp[intOf];omega⟩
          by_cases hjq:j=q
          ·rw[hjq,Hy.out];exact hs
          ·exact hqa j (by omega)
         ·have hno:=Lib.hid (q7n (S:=S) hlt (by rw[hok1.out,hz,hok.out,hnm hs];rfl))
          go_wp2_with fail
          go_quiet (fail)
          generalize hwz:World.drewN wr _=wz
          have hBz:Below w1.heap.size w1 wz:=by rw[←hwz];exact q0u hBw _
          clear hwz
          go_wp2
          go_ret
          exact⟨by rw[hno.out];rfl,b1.trans (hBz.mono b1.size)⟩
        ·have hqk:q=k:=by omega
         have hnn:namedL (S.vols.take k) x.name=false:=qhd fun j hj=>by
          rw[qhg S hlt] at hj
          rw[qdv S hj]
          exact hqa j (by omega)
         have hyes:=Lib.hid (show S.ok1 k=true by rw[hok1.out,hok.out,hnn];simp)
         go_wp2
         refine⟨⟨k+1,by omega,by go_num,fun j hj=>?_,hBw⟩,by simp[intOf];omega⟩
         by_cases hjk:j=k
         ·rw[hjk];exact hyes.out
         ·exact hall j (by omega)
    ·have HZ:=Lib.hid (show S.ok1 k=true by rw[hok1.out,hz];rfl)
     go_wp2
     refine⟨⟨k+1,by omega,by go_num,fun j hj=>?_,hBx⟩,by simp[intOf];omega⟩
     by_cases hjk:j=k
     ·rw[hjk];exact HZ.out
     ·exact hall j (by omega)
   ·have hk8:k=8:=by omega
    have hyes:=Lib.hid (Hyes.out (by rw[←hk8];exact hall))
    go_wp2
    go_ret
    exact⟨by rw[hyes.out];rfl,b1.trans (hB.mono b1.size)⟩
section
theorem q2r (A:Option Addr)(k c:Nat)(l:List UInt8)(x n:Int)(w:World)(h:Sl w A k c l)(hk:k≤17592186044416)(h1:1≤n)(h2:n≤8) :
  Calls Tryz.prog 124 #[.slice A k c,.int .i64 x,.int .i64 n] w fun e w'=>∃A' n' c',e=.returned (.slice A' n' c')∧Own w' w.heap.size 5 A' n' c' (l++dig x n.toNat)∧(n'≤k+n.toNat∧k+n.toNat≤n')∧Below w.heap.size w w':=by
 refine (q1h A k c l x n w h hk).mono ?_
 rw[q6p l x n h1 h2]
 rintro e w' ⟨A',n',c',rfl,own,hb⟩
 have:=own.len
 rw[List.length_append,q0c,h.len] at this
 exact⟨A',n',c',rfl,own,⟨by omega,by omega⟩,hb⟩
theorem qsf (s:ByteArray)(l:List UInt8)(_h:s.size≤10):filR (l++s.data.toList) (10-s.size)=l++padL s:=by
 unfold filR padL
 rw[List.append_assoc]
theorem qls (s:ByteArray)(w:World):(convert 9 30 (.string s)).run Tryz.prog w=.ok (.slice (some ⟨w.heap.size,0,none⟩) s.size (grownCap w s.size 0 5)) (Lib.bytesWorld w 5 s):=
 Lib.run_convert_string_bytes w 9 30 5 s Tryz.underlying9 Tryz.underlying30 Tryz.underlying5
attribute [local go_sem ↓] q14 q3q
theorem q3s (S:Sp)(slot:Int)(hf:S.fine)(w:World) :
  Calls Tryz.prog 72 #[.agg S.vs.toArray,.int .i64 slot] w fun e w'=>
   ∃A' n' c',e=.returned (.tuple #[.slice A' n' c',.int .i64 (swE S slot)])∧Own w' w.heap.size 5 A' n' c' (swB S slot)∧Below w.heap.size w w':=by
 have H1:=SB.new w S 56
 have b1:Below w.heap.size w (w.alloc (.cells S.vs.toArray 56)):=blA
 have hl1:=H1.ld
 obtain⟨m,hm⟩:∃m,S.may=m:=⟨_,rfl⟩
 go_enter Tryz.func72,Tryz.ntmps72
 go_wp2_with fail
 generalize w.alloc (.cells S.vs.toArray 56)=w1 at H1 b1 hl1 ⊢
 refine (q5v S m hm hf w1).mono ?_
 rintro e w2 ⟨rfl,hb2⟩
 have H2:=H1.below hb2 H1.lt
 have B2:=b1.trans (hb2.mono b1.size)
 have hl2:=H2.ld
 have q0:=H2.c0
 have q1:=H2.c1
 have q2:=H2.c2
 clear H1 hl1 hb2 b1
 cases m
 ·have hno:swOk S slot=false:=by unfold swOk;rw[hm];rfl
  obtain⟨h1,h2⟩:=qjk hno
  go_wp2
  go_ret2
  rw[h1,h2]
  exact⟨_,_,_,rfl,own_none _ _ _,B2⟩
 ·by_cases hsl:0≤slot∧slot≤1
  ·have hok:swOk S slot=true:=by unfold swOk;rw[hm,decide_eq_true hsl];rfl
   obtain⟨h1,h2,h3,h4⟩:=qai hok
   have h1h:=Lib.hid h1
   have h2h:=Lib.hid h2
   have h3h:=Lib.hid h3
   have h4h:=Lib.hid h4
   have hvn:=q4m hm
   have d0:decide (slot<0)=false:=decide_eq_false (by omega)
   have d1:decide (1<slot)=false:=decide_eq_false (by omega)
   clear hsl h1 h2 h3 h4 hok
   go_wp2_with fail
   have hS:∀w':World,Below w2.heap.size w2 w'→w'.cell? ⟨w.heap.size,1,none⟩=some (.int .i64 S.sectors)∧w'.cell? ⟨w.heap.size,2,none⟩=some (.int .i64 S.log)∧Below w2.heap.size w2 w':=
    fun w' hb=>⟨(hb.cell (p:=⟨w.heap.size,1,none⟩) H2.lt).trans q1,(hb.cell (p:=⟨w.heap.size,2,none⟩) H2.lt).trans q2,hb⟩
   have BD:Below w2.heap.size w2 w2.drew:=(Below.refl _ _).drew
   have zd:w2.heap.size≤w2.drew.heap.size:=Nat.le_refl _
   have p0:(0:Nat)≤17592186044416:=by omega
   have p1:(1:Int)≤2:=by omega
   have p2:(2:Int)≤8:=by omega
   go_region_held3 (fun w'=>w'.cell? ⟨w.heap.size,1,none⟩=some (.int .i64 S.sectors)∧w'.cell? ⟨w.heap.size,2,none⟩=some (.int .i64 S.log)∧Below w2.heap.size w2 w')
    (first|assumption|exact hS _ BD|exact hS _ bb3|exact hS _ bb4)
    (first
     |(have hh:=bb3;go_at_call 124;refine (q2r A3 n3 c3 _ S.log 2 _ own3.sl q3 p1 p2).mono ?_;rintro e w4 ⟨A4,n4,c4,rfl,own4,hn4,hb4⟩;have bb4:Below w2.heap.size w2 w4:=bb3.trans (hb4.mono (Below.size bb3)))
     |(go_at_call 124;refine (q2r none 0 0 [] S.sectors 2 _ (q0m _) p0 p1 p2).mono ?_;rintro e w3 ⟨A3,n3,c3,rfl,own3',hn3,hb3⟩;have own3:Own w3 w2.heap.size 5 A3 n3 c3 _:=own3';have bb3:Below w2.heap.size w2 w3:=BD.trans (hb3.mono zd);have q3:n3≤17592186044416:=by omega)
     |fail)
   have e4:[]++dig S.sectors (2:Int).toNat++dig S.log (2:Int).toNat=bodyTo S 0:=by rw[q5t];rfl
   rw[e4] at own4
   have own4:=own4.less (Below.size bb3)
   have hn4':n4≤4:=by omega
   clear hS BD own3 own3' hn3 hb3 hb4 hn4 e4 q1 q2 hl2
   go_wp2_with fail
   go_loopw [7,8] (fun b i wr=>∃(k:Nat) (A:Option Addr) (n c:Nat),k≤8∧n≤4+18*k∧b=.slice A n c∧i=.int .i64 (k:Int)∧Own wr w2.heap.size 5 A n c (bodyTo S k)∧Below w2.heap.size w2 wr) (fun _ i _=>8-(intOf i).toNat)
   case atStart=>exact⟨0,A4,n4,c4,by omega,by omega,rfl,rfl,own4,bb4⟩
   case round=>
    clear own4 bb4
    obtain⟨k,A,n,c,hk,hn,rfl,rfl,own,hB⟩:=hrel
    by_cases hlt:k<8
    ·have hk0:(0:Int)≤(k:Int):=by omega
     have Hr:=H2.below hB H2.lt
     obtain⟨c0,c1,c2,c3⟩:=Hr.four hlt
     have hnx:=Lib.hid (q5u S hlt)
     have hsz:=hvn k hlt
     obtain⟨x,hx⟩:∃x,S.at_ k=x:=⟨_,rfl⟩
     rw[hx] at c0 c1 c2 c3 hsz hnx
     clear hx
     obtain⟨l0,hl0⟩:∃l0,bodyTo S k=l0:=⟨_,rfl⟩
     rw[hl0] at own hnx
     clear hl0
     have bx:Below wr.heap.size wr (wr.alloc (.cells #[.string x.name,.bool x.ro,.int .i64 x.root,.int .i64 x.next] 32)):=blA
     have hBx:=hB.trans (bx.mono hB.size)
     have V0:VB (wr.alloc (.cells #[.string x.name,.bool x.ro,.int .i64 x.root,.int .i64 x.next] 32)) wr.heap.size x:=VB.new wr x _
     have ownx:=own.below bx
     have v0:=V0.c0
     go_wp2_with fail
     clear c0 c1 c2 c3 own
     generalize wr.alloc (.cells #[.string x.name,.bool x.ro,.int .i64 x.root,.int .i64 x.next] 32)=wx at bx hBx V0 ownx v0 ⊢
     obtain⟨bk,hbk⟩:∃bk,wr.heap.size=bk:=⟨_,rfl⟩
     rw[hbk] at V0 v0 ⊢
     have hbk2:w2.heap.size≤bk:=by have:=hB.size;omega
     refine (q2r A n c l0 (x.name.size:Int) 1 wx ownx.sl (by omega) (by omega) (by omega)).mono ?_
     rintro e w5 ⟨A5,n5,c5,rfl,own5,hn5,hb5⟩
     obtain⟨l5,hl5⟩:∃l5,l0++dig (x.name.size:Int) (1:Int).toNat=l5:=⟨_,rfl⟩
     rw[hl5] at own5
     have Hl5:=Lib.hid hl5
     clear hl5
     have V5:=V0.below hb5 V0.lt
     have hB5:=hBx.trans (hb5.mono hBx.size)
     have v5:=V5.c0
     have hcv:=qls x.name w5
     have bc:=q2l w5 5 x.name
     have sc:=q50 w5 5 x.name (by unfold maxLen;omega)
     generalize Lib.bytesWorld w5 5 x.name=wc at hcv bc sc
     generalize grownCap w5 x.name.size 0 5=cc at hcv sc
     have ownc:=own5.below bc
     have bx5:=hb5
     have bxc:=bx5.trans (bc.mono bx5.size)
     clear v0 ownx hb5
     go_wp2_with (at_builtin;refine q10 _ T22 rfl _ _ rfl wx.heap.size A5 n5 c5 _ rfl ownc _ _ _ _ rfl sc (by omega) bxc.size ?_)
     intro A6 c6 w6 own6 hb6
     have bx6:=bxc.trans hb6
     have v6:=(V0.below bx6 V0.lt).c0
     have epad:=Lib.hid (qsf x.name l5 hsz)
     obtain⟨l1,hl1⟩:∃l1,l5++x.name.data.toList=l1:=⟨_,rfl⟩
     rw[hl1] at own6
     have epad2:=Lib.hid (epad.out)
     have Hl1:=Lib.hid hl1
     have hn6:n5+x.name.size≤n+1+x.name.size:=by omega
     clear hl1 epad sc bc ownc own5 v5 hcv V5 hB5 bx5 bxc hb6
     go_wp2_with fail
     go_loopw [7,10] (fun b i wr=>∃(q m:Nat) (A:Option Addr) (c:Nat),x.name.size≤q∧q≤10∧m≤n+1+q∧b=.slice A m c∧i=.int .i64 (q:Int)∧Own wr wx.heap.size 5 A m c (filR l1 (q-x.name.size))∧Below wx.heap.size wx wr) (fun _ i _=>10-(intOf i).toNat)
     case atStart=>exact⟨x.name.size,_,A6,c6,by omega,by omega,hn6,rfl,rfl,by rw[Nat.sub_self,qf5];exact own6,bx6⟩
     case round=>
      clear own6 bx6 hn6 v6
      obtain⟨q,m,A7,c7,hq1,hq2,hm7,rfl,rfl,own7,bx7⟩:=hrel
      by_cases hlq:q<10
      ·have hone:=qfh wr 5 0 (.int .u8 0) rfl
       have own7':=own7.alloc (.cells #[.int .u8 0] 5)
       have hzr:=bx7.size
       have hm8:m+1≤n+1+(q+1):=by omega
       go_wp2_with (at_builtin;refine q10 _ T22 rfl _ _ rfl wx.heap.size _ _ _ _ rfl own7' _ _ _ _ rfl hone.sl (by omega) (by simp;omega) ?_)
       intro A8 c8 w8 own8 hb8
       have hb8:=q2t _ hb8 hzr
       rw[qf4,show q-x.name.size+1=(q+1)-x.name.size by omega] at own8
       go_wp2
       exact⟨⟨q+1,_,_,_,by omega,by omega,hm8,rfl,by go_num,own8,bx7.trans hb8⟩,by simp[intOf];omega⟩
      ·obtain rfl:q=10:=by omega
       have e7:filR l1 (10-x.name.size)=l5++padL x.name:=by rw[←Hl1.out];exact epad2.out
       rw[e7] at own7
       have V7:=V0.below bx7 V0.lt
       have r1:=V7.c1
       have r2:=V7.c2
       have r3:=V7.c3
       have hm9:m≤17592186044416:=by omega
       have hm10:m≤4+18*k+11:=by omega
       clear e7 hq1 hq2 hlq hm7
       have hS:∀w':World,Below wr.heap.size wr w'→w'.cell? ⟨bk,2,none⟩=some (.int .i64 x.root)∧w'.cell? ⟨bk,3,none⟩=some (.int .i64 x.next)∧Below wr.heap.size wr w':=
        fun w' hb=>⟨(hb.cell (p:=⟨bk,2,none⟩) V7.lt).trans r2,(hb.cell (p:=⟨bk,3,none⟩) V7.lt).trans r3,hb⟩
       have BD:Below wr.heap.size wr wr.drew:=(Below.refl _ _).drew
       have zd:wr.heap.size≤wr.drew.heap.size:=Nat.le_refl _
       have p1:(1:Int)≤1:=by omega
       have p2:(1:Int)≤8:=by omega
       have p3:(1:Int)≤2:=by omega
       have p4:(2:Int)≤8:=by omega
       have p5:(1:Int)≤4:=by omega
       have p6:(4:Int)≤8:=by omega
       obtain⟨ro,hro⟩:∃ro,x.ro=ro:=⟨_,rfl⟩
       rw[hro] at r1
       have Hro:=Lib.hid hro
       clear hro
       cases ro
       all_goals
        go_wp2_with fail
        go_region_held3 (fun w'=>w'.cell? ⟨bk,2,none⟩=some (.int .i64 x.root)∧w'.cell? ⟨bk,3,none⟩=some (.int .i64 x.next)∧Below wr.heap.size wr w')
         (first|assumption|exact hS _ BD|exact hS _ bb8|exact hS _ bb9|exact hS _ bb10)
         (first
          |(have hh:=bb9;go_at_call 124;refine (q2r A9 n9 c9 _ x.next 4 _ own9.sl q9 p5 p6).mono ?_;rintro e w10 ⟨A10,n10,c10,rfl,own10,hn10,hb10⟩;have bb10:Below wr.heap.size wr w10:=bb9.trans (hb10.mono (Below.size bb9)))
          |(have hh:=bb8;go_at_call 124;refine (q2r A8 n8 c8 _ x.root 2 _ own8.sl q8 p3 p4).mono ?_;rintro e w9 ⟨A9,n9,c9,rfl,own9,hn9,hb9⟩;have bb9:Below wr.heap.size wr w9:=bb8.trans (hb9.mono (Below.size bb8));have q9:n9≤17592186044416:=by omega)
          |(go_at_call 124;refine (q2r A7 m c7 _ _ 1 _ own7.sl.drew hm9 p1 p2).mono ?_;rintro e w8 ⟨A8,n8,c8,rfl,own8',hn8,hb8⟩;have own8:Own w8 wr.heap.size 5 A8 n8 c8 _:=own8';have bb8:Below wr.heap.size wr w8:=BD.trans (hb8.mono zd);have q8:n8≤17592186044416:=by omega)
          |fail)
        have hB10:Below w2.heap.size w2 w10:=hBx.trans ((bx7.trans (bb10.mono bx7.size)).mono hBx.size)
        have hn11:n10≤4+18*(k+1):=by omega
        have own11:=own10.less (show w2.heap.size≤w9.heap.size by have h1:=hBx.size;have h2:=bx7.size;have h3:=Below.size bb9;omega)
        have e11:∀z:Int,z=dgt x.ro→l5++padL x.name++dig z (1:Int).toNat++dig x.root (2:Int).toNat++dig x.next (4:Int).toNat=bodyTo S (k+1):=by
         rintro z rfl
         rw[hnx.out,←Hl5.out]
         unfold volB
         simp only[List.append_assoc]
         rfl
        rw[e11 _ (by rw[Hro.out];rfl)] at own11
        clear own10 own9 own8 own8' own7 hn8 hn9 hn10 hS BD e11
        go_wp2
        exact⟨⟨k+1,_,_,_,by omega,hn11,rfl,by go_num,own11,hB10⟩,by simp[intOf];omega⟩
    ·have hk8:k=8:=by omega
     have hB2:=B2.trans (hB.mono B2.size)
     have g0:=(H2.below hB H2.lt).c0
     rw[hk8] at own
     have own:Own wr w2.heap.size 5 A n c (bodyB S):=own
     go_wp2_with fail
     refine (q2z (hdS S slot) A n c _ wr own.sl).mono ?_
     rw[h3h.out,h4h.out]
     rintro e w6 ⟨A6,n6,c6,rfl,s6,hb6⟩
     go_wp2
     go_ret2
     rw[h1h.out,h2h.out]
     exact⟨_,_,_,rfl,s6.less hB2.size,hB2.trans (hb6.mono hB2.size)⟩
  ·have hno:swOk S slot=false:=by unfold swOk;rw[hm,decide_eq_false hsl];rfl
   obtain⟨h1,h2⟩:=qjk hno
   rcases (by omega:slot<0∨(0≤slot∧1<slot)) with h|h
   ·have d0:decide (slot<0)=true:=decide_eq_true h
    clear hsl h
    go_wp2
    go_ret2
    rw[h1,h2]
    exact⟨_,_,_,rfl,own_none _ _ _,B2⟩
   ·have d0:decide (slot<0)=false:=decide_eq_false (by omega)
    have d1:decide (1<slot)=true:=decide_eq_true h.2
    clear hsl h
    go_wp2
    go_ret2
    rw[h1,h2]
    exact⟨_,_,_,rfl,own_none _ _ _,B2⟩
theorem qc5 (S:Sp)(slot:Int)(hf:S.fine)(w:World) :
  Calls Tryz.prog 72 #[.agg S.vs.toArray,.int .i64 slot] w fun e w'=>
   ∃A' n' c',e=.returned (.tuple #[.slice A' n' c',.int .i64 (swE S slot)])∧Sl w' A' n' c' (swB S slot)∧Below w.heap.size w w':=by
 refine (q3s S slot hf w).mono ?_
 rintro e w' ⟨A',n',c',rfl,own,hb⟩
 exact⟨A',n',c',rfl,own.sl,hb⟩
end
end Go.Proofs.YtipejjgodnnkaaaGreatDoor
