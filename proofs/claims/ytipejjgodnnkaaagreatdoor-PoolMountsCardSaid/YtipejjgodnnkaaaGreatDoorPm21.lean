/- Superblocks: the reference's May -/
import Derived.Test.YtipejjgodnnkaaaGreatDoorPm10
namespace Go.Proofs.YtipejjgodnnkaaaGreatDoor
open Go Go.RowKit Go.Proofs
set_option maxHeartbeats 8000000
set_option maxRecDepth 100000
theorem SB.four {w:World}{b:Nat}{S:Sp}(H:SB w b S){k:Nat}(hk:k<8):w.cell? ⟨b,3+k*4,none⟩=some (.string (S.at_ k).name)∧w.cell? ⟨b,3+k*4+1,none⟩=some (.bool (S.at_ k).ro)∧w.cell? ⟨b,3+k*4+2,none⟩=some (.int .i64 (S.at_ k).root)∧w.cell? ⟨b,3+k*4+3,none⟩=some (.int .i64 (S.at_ k).next):=by
 have h:=H.vol hk
 rw[show 3+4*k=3+k*4 by omega] at h
 exact⟨h 0 _ rfl,h 1 _ rfl,h 2 _ rfl,h 3 _ rfl⟩
theorem qd1 (S:Sp){k q:Nat}(hq:q<k):vlAt (S.vols.take k) q=S.at_ q:=by
 unfold vlAt Sp.at_
 rw[List.getD_eq_getElem?_getD,List.getD_eq_getElem?_getD,List.getElem?_take_of_lt hq]
theorem qgk (S:Sp){k:Nat}(hk:k<8):(S.vols.take k).length=k:=by rw[List.length_take,S.len];omega
theorem q2i {a b:Prop}[Decidable a][Decidable b](h:¬(a∧b)):(decide a&&decide b)=false:=by
 rw[Bool.eq_false_iff]
 intro h2
 rw[Bool.and_eq_true,decide_eq_true_eq,decide_eq_true_eq] at h2
 exact h h2
theorem q5f (S:Sp)(r:Bool)(hr:S.may=r)(hf:S.fine)(w:World) :
  Calls Tryz.prog 109 #[.agg S.vs.toArray] w fun e w'=>e=.returned (.bool r)∧Below w.heap.size w w':=by
 subst hr
 have H1:=SB.new w S 56
 have b1:Below w.heap.size w (w.alloc (.cells S.vs.toArray 56)):=blA
 have q0:=H1.c0
 have q1:=H1.c1
 have q2:=H1.c2
 rcases (by omega:(S.gen<1)∨(¬(S.gen<1)∧1099511627775<S.gen)∨(¬(S.gen<1)∧¬(1099511627775<S.gen)∧S.sectors<32)∨(¬(S.gen<1)∧¬(1099511627775<S.gen)∧¬(S.sectors<32)∧2048<S.sectors)∨(¬(S.gen<1)∧¬(1099511627775<S.gen)∧¬(S.sectors<32)∧¬(2048<S.sectors)∧S.log<0)∨(¬(S.gen<1)∧¬(1099511627775<S.gen)∧¬(S.sectors<32)∧¬(2048<S.sectors)∧¬(S.log<0)∧S.sectors≤S.log)∨(¬(S.gen<1)∧¬(1099511627775<S.gen)∧¬(S.sectors<32)∧¬(2048<S.sectors)∧¬(S.log<0)∧¬(S.sectors≤S.log))) with h|h|h|h|h|h|h
 all_goals go_enter Tryz.func109,Tryz.ntmps109
 ·have d0:decide (S.gen<1)=true:=decide_eq_true (by omega)
  have Hno:=Lib.hid (q6d (S:=S) (decide_eq_false (by omega)))
  clear h
  go_wp2_with fail
  go_ret
  exact⟨by rw[Hno.out];rfl,b1⟩
 ·have d0:decide (S.gen<1)=false:=decide_eq_false (by omega)
  have d1:decide (1099511627775<S.gen)=true:=decide_eq_true (by omega)
  have Hno:=Lib.hid (q6d (S:=S) (decide_eq_false (by omega)))
  clear h
  go_wp2_with fail
  go_ret
  exact⟨by rw[Hno.out];rfl,b1⟩
 ·have d0:decide (S.gen<1)=false:=decide_eq_false (by omega)
  have d1:decide (1099511627775<S.gen)=false:=decide_eq_false (by omega)
  have d2:decide (S.sectors<32)=true:=decide_eq_true (by omega)
  have Hno:=Lib.hid (q6d (S:=S) (decide_eq_false (by omega)))
  clear h
  go_wp2_with fail
  go_ret
  exact⟨by rw[Hno.out];rfl,b1⟩
 ·have d0:decide (S.gen<1)=false:=decide_eq_false (by omega)
  have d1:decide (1099511627775<S.gen)=false:=decide_eq_false (by omega)
  have d2:decide (S.sectors<32)=false:=decide_eq_false (by omega)
  have d3:decide (2048<S.sectors)=true:=decide_eq_true (by omega)
  have Hno:=Lib.hid (q6d (S:=S) (decide_eq_false (by omega)))
  clear h
  go_wp2_with fail
  go_ret
  exact⟨by rw[Hno.out];rfl,b1⟩
 ·have d0:decide (S.gen<1)=false:=decide_eq_false (by omega)
  have d1:decide (1099511627775<S.gen)=false:=decide_eq_false (by omega)
  have d2:decide (S.sectors<32)=false:=decide_eq_false (by omega)
  have d3:decide (2048<S.sectors)=false:=decide_eq_false (by omega)
  have d4:decide (S.log<0)=true:=decide_eq_true (by omega)
  have Hno:=Lib.hid (q6d (S:=S) (decide_eq_false (by omega)))
  clear h
  go_wp2_with fail
  go_ret
  exact⟨by rw[Hno.out];rfl,b1⟩
 ·have d0:decide (S.gen<1)=false:=decide_eq_false (by omega)
  have d1:decide (1099511627775<S.gen)=false:=decide_eq_false (by omega)
  have d2:decide (S.sectors<32)=false:=decide_eq_false (by omega)
  have d3:decide (2048<S.sectors)=false:=decide_eq_false (by omega)
  have d4:decide (S.log<0)=false:=decide_eq_false (by omega)
  have d5:decide (S.sectors≤S.log)=true:=decide_eq_true (by omega)
  have Hno:=Lib.hid (q6d (S:=S) (decide_eq_false (by omega)))
  clear h
  go_wp2_with fail
  go_ret
  exact⟨by rw[Hno.out];rfl,b1⟩
 ·have d0:decide (S.gen<1)=false:=decide_eq_false (by omega)
  have d1:decide (1099511627775<S.gen)=false:=decide_eq_false (by omega)
  have d2:decide (S.sectors<32)=false:=decide_eq_false (by omega)
  have d3:decide (2048<S.sectors)=false:=decide_eq_false (by omega)
  have d4:decide (S.log<0)=false:=decide_eq_false (by omega)
  have d5:decide (S.sectors≤S.log)=false:=decide_eq_false (by omega)
  have hhd:S.hd=true:=decide_eq_true (by omega)
  have Hyes:=Lib.hid (fun h=>qbx (S:=S) hhd h)
  go_wp2_with fail
  generalize w.alloc (.cells S.vs.toArray 56)=w1 at H1 b1 q0 q1 q2 ⊢
  go_loopw [3] (fun i wr=>∃k:Nat,k≤8∧i=.int .i64 (k:Int)∧(∀j<k,S.ok1 j=true)∧Below w1.heap.size w1 wr) (fun i _=>8-(intOf i).toNat)
  case atStart=>exact⟨0,by omega,rfl,fun j hj=>by omega,Below.refl _ _⟩
  case round=>
   obtain⟨k,hk,rfl,hall,hB⟩:=hrel
   by_cases hlt:k<8
   ·have hk0:(0:Int)≤(k:Int):=by omega
    have Hr:=H1.below hB H1.lt
    obtain⟨c0,c1,c2,c3⟩:=Hr.four hlt
    obtain⟨x,hx⟩:∃x,S.at_ k=x:=⟨_,rfl⟩
    have hsz:=hf k hlt
    rw[hx] at c0 c1 c2 c3 hsz
    have hok1:=Lib.hid (show S.ok1 k=(x.same Vl.zero||(x.ok S.sectors&&!namedL (S.vols.take k) x.name)) by unfold Sp.ok1;rw[hx])
    clear hx
    have hG:=qqi
    have bx:Below wr.heap.size wr (wr.alloc (.cells #[.string x.name,.bool x.ro,.int .i64 x.root,.int .i64 x.next] 32)):=blA
    have hBx:=hB.trans (bx.mono hB.size)
    obtain⟨z,hz⟩:∃z,x.same Vl.zero=z:=⟨_,rfl⟩
    have heql:=qtq x z hz
    cases z
    ·go_wp2_with fail
     have x0:(wr.alloc (.cells #[.string x.name,.bool x.ro,.int .i64 x.root,.int .i64 x.next] 32)).heap[wr.heap.size]?=some (.cells #[.string x.name,.bool x.ro,.int .i64 x.root,.int .i64 x.next] 32 (0,0)):=heap_alloc_new wr _
     have zx:wr.heap.size<(wr.alloc (.cells #[.string x.name,.bool x.ro,.int .i64 x.root,.int .i64 x.next] 32)).heap.size:=by simp
     have Hx:=Hr.below bx Hr.lt
     generalize wr.alloc (.cells #[.string x.name,.bool x.ro,.int .i64 x.root,.int .i64 x.next] 32)=wx at bx x0 zx hBx Hx ⊢
     have p0:wx.cell? ⟨wr.heap.size,0,none⟩=some (.string x.name):=by rw[cell_of_row _ _ _ _ _ _ x0];rfl
     have p1:wx.cell? ⟨wr.heap.size,1,none⟩=some (.bool x.ro):=by rw[cell_of_row _ _ _ _ _ _ x0];rfl
     have p2:wx.cell? ⟨wr.heap.size,2,none⟩=some (.int .i64 x.root):=by rw[cell_of_row _ _ _ _ _ _ x0];rfl
     have p3:wx.cell? ⟨wr.heap.size,3,none⟩=some (.int .i64 x.next):=by rw[cell_of_row _ _ _ _ _ _ x0];rfl
     have p4:=Hx.c1
     obtain⟨bk,hbk⟩:∃bk,wr.heap.size=bk:=⟨_,rfl⟩
     rw[hbk] at p0 p1 p2 p3 zx ⊢
     have hBl:=hBx
     clear c0 c1 c2 c3 x0 q0 q1 q2 heql
     obtain⟨a,hlab⟩:∃a,labL x.name=a:=⟨_,rfl⟩
     refine (qeg x.name a hlab wx hsz).mono ?_
     rintro e w2 ⟨rfl,rfl⟩
     cases a
     ·have hno:=Lib.hid (q7c (S:=S) hlt (by rw[hok1.out,hz];unfold Vl.ok;rw[hlab];rfl))
      go_wp2_with fail
      go_ret
      exact⟨by rw[hno.out];rfl,b1.trans (hBl.mono b1.size)⟩
     ·rcases (by omega:(x.root<0)∨(¬(x.root<0)∧S.sectors≤x.root)∨(¬(x.root<0)∧¬(S.sectors≤x.root)∧x.next<2)∨(¬(x.root<0)∧¬(S.sectors≤x.root)∧¬(x.next<2)∧2147483647<x.next)∨(¬(x.root<0)∧¬(S.sectors≤x.root)∧¬(x.next<2)∧¬(2147483647<x.next))) with h9|h9|h9|h9|h9
      ·have e0:decide (x.root<0)=true:=decide_eq_true (by omega)
       have hno:=Lib.hid (q7c (S:=S) hlt (by rw[hok1.out,hz];unfold Vl.ok;rw[hlab,q2i (by omega)];rfl))
       clear h9
       go_wp2_with fail
       go_ret
       exact⟨by rw[hno.out];rfl,b1.trans (hBl.mono b1.size)⟩
      ·have e0:decide (x.root<0)=false:=decide_eq_false (by omega)
       have e1:decide (S.sectors≤x.root)=true:=decide_eq_true (by omega)
       have hno:=Lib.hid (q7c (S:=S) hlt (by rw[hok1.out,hz];unfold Vl.ok;rw[hlab,q2i (by omega)];rfl))
       clear h9
       go_wp2_with fail
       go_ret
       exact⟨by rw[hno.out];rfl,b1.trans (hBl.mono b1.size)⟩
      ·have e0:decide (x.root<0)=false:=decide_eq_false (by omega)
       have e1:decide (S.sectors≤x.root)=false:=decide_eq_false (by omega)
       have e2:decide (x.next<2)=true:=decide_eq_true (by omega)
       have hno:=Lib.hid (q7c (S:=S) hlt (by rw[hok1.out,hz];unfold Vl.ok;rw[hlab,q2i (by omega)];rfl))
       clear h9
       go_wp2_with fail
       go_ret
       exact⟨by rw[hno.out];rfl,b1.trans (hBl.mono b1.size)⟩
      ·have e0:decide (x.root<0)=false:=decide_eq_false (by omega)
       have e1:decide (S.sectors≤x.root)=false:=decide_eq_false (by omega)
       have e2:decide (x.next<2)=false:=decide_eq_false (by omega)
       have e3:decide (2147483647<x.next)=true:=decide_eq_true (by omega)
       have hno:=Lib.hid (q7c (S:=S) hlt (by rw[hok1.out,hz];unfold Vl.ok;rw[hlab,q2i (by omega)];rfl))
       clear h9
       go_wp2_with fail
       go_ret
       exact⟨by rw[hno.out];rfl,b1.trans (hBl.mono b1.size)⟩
      ·have e0:decide (x.root<0)=false:=decide_eq_false (by omega)
       have e1:decide (S.sectors≤x.root)=false:=decide_eq_false (by omega)
       have e2:decide (x.next<2)=false:=decide_eq_false (by omega)
       have e3:decide (2147483647<x.next)=false:=decide_eq_false (by omega)
       have hok:=Lib.hid (show x.ok S.sectors=true by unfold Vl.ok;rw[hlab,decide_eq_true (by omega),decide_eq_true (by omega)];rfl)
       clear h9
       go_wp2_with fail
       go_loopw [6] (fun i wq=>∃q:Nat,q≤k∧i=.int .i64 (q:Int)∧(∀j<q,((S.at_ j).name.toList==x.name.toList)=false)∧Below wx.heap.size wx wq) (fun i _=>k-(intOf i).toNat)
       case atStart=>exact⟨0,by omega,rfl,fun j hj=>by omega,Below.refl _ _⟩
       case round=>
        obtain⟨q,hq,rfl,hqa,hBq⟩:=hrel
        have hq0:(0:Int)≤(q:Int):=by omega
        have hBw:=hBl.trans (hBq.mono hBl.size)
        by_cases hlq:q<k
        ·have hq8:(q:Int)<8:=by omega
         have n0:=((Hx.below hBq Hx.lt).four (show q<8 by omega)).1
         have n1:=(hBq.cell (p:=⟨bk,0,none⟩) zx).trans p0
         have hnm:=qea (l:=S.vols.take k) (s:=x.name) (j:=q) (by rw[qgk S hlt];exact hlq)
         rw[qd1 S hlq] at hnm
         obtain⟨y,hy⟩:∃y,S.at_ q=y:=⟨_,rfl⟩
         have Hy:=Lib.hid hy
         rw[hy] at n0 hnm
         clear hy
         cases hs:y.name.toList==x.name.toList
         ·go_wp2_with fail
          go_quiet (fail)
          generalize hwz:World.drewN wr _=wz
          have hBz:Below wx.heap.size wx wz:=by rw[←hwz];exact q0s hBq _
          clear hwz
          go_wp2
          refine⟨⟨q+1,by omega,by go_num,fun j hj=>?_,hBz⟩,by simp[intOf];omega⟩
          by_cases hjq:j=q
          ·rw[hjq,Hy.out];exact hs
          ·exact hqa j (by omega)
         ·have hno:=Lib.hid (q7c (S:=S) hlt (by rw[hok1.out,hz,hok.out,hnm hs];rfl))
          go_wp2_with fail
          go_quiet (fail)
          generalize hwz:World.drewN wr _=wz
          have hBz:Below w1.heap.size w1 wz:=by rw[←hwz];exact q0s hBw _
          clear hwz
          go_wp2
          go_ret
          exact⟨by rw[hno.out];rfl,b1.trans (hBz.mono b1.size)⟩
        ·have hqk:q=k:=by omega
         have hnn:namedL (S.vols.take k) x.name=false:=qho fun j hj=>by
          rw[qgk S hlt] at hj
          rw[qd1 S hj]
          exact hqa j (by omega)
         have hyes:=Lib.hid (show S.ok1 k=true by rw[hok1.out,hok.out,hnn];simp)
         go_wp2
         refine⟨⟨k+1,by omega,by go_num,fun j hj=>?_,hBw⟩,by simp[intOf];omega⟩
         by_cases hjk:j=k
         ·rw[hjk];exact hyes.out
         ·exact hall j (by omega)
    ·have HZ:=Lib.hid (show S.ok1 k=true by rw[hok1.out,hz];rfl)
     go_wp2
     refine⟨⟨k+1,by omega,by go_num,fun j hj=>?_,hBx⟩,by simp[intOf];omega⟩
     by_cases hjk:j=k
     ·rw[hjk];exact HZ.out
     ·exact hall j (by omega)
   ·have hk8:k=8:=by omega
    have hyes:=Lib.hid (Hyes.out (by rw[←hk8];exact hall))
    go_wp2
    go_ret
    exact⟨by rw[hyes.out];rfl,b1.trans (hB.mono b1.size)⟩
section
theorem q2n (A:Option Addr)(k c:Nat)(l:List UInt8)(x n:Int)(w:World)(h:Sl w A k c l)(hk:k≤17592186044416)(h1:1≤n)(h2:n≤8) :
  Calls Tryz.prog 124 #[.slice A k c,.int .i64 x,.int .i64 n] w fun e w'=>∃A' n' c',e=.returned (.slice A' n' c')∧Own w' w.heap.size 5 A' n' c' (l++dig x n.toNat)∧(n'≤k+n.toNat∧k+n.toNat≤n')∧Below w.heap.size w w':=by
 refine (q1f A k c l x n w h hk).mono ?_
 rw[q6a l x n h1 h2]
 rintro e w' ⟨A',n',c',rfl,own,hb⟩
 have:=own.len
 rw[List.length_append,q0b,h.len] at this
 exact⟨A',n',c',rfl,own,⟨by omega,by omega⟩,hb⟩
theorem qr6 (s:ByteArray)(l:List UInt8)(_h:s.size≤10):filR (l++s.data.toList) (10-s.size)=l++padL s:=by
 unfold filR padL
 rw[List.append_assoc]
theorem qkn (s:ByteArray)(w:World):(convert 9 30 (.string s)).run Tryz.prog w=.ok (.slice (some ⟨w.heap.size,0,none⟩) s.size (grownCap w s.size 0 5)) (Lib.bytesWorld w 5 s):=
 Lib.run_convert_string_bytes w 9 30 5 s Tryz.underlying9 Tryz.underlying30 Tryz.underlying5
attribute [local go_sem ↓] q12 q3j
theorem q3p (S:Sp)(slot:Int)(hf:S.fine)(w:World) :
  Calls Tryz.prog 72 #[.agg S.vs.toArray,.int .i64 slot] w fun e w'=>
   ∃A' n' c',e=.returned (.tuple #[.slice A' n' c',.int .i64 (swE S slot)])∧Own w' w.heap.size 5 A' n' c' (swB S slot)∧Below w.heap.size w w':=by
 have H1:=SB.new w S 56
 have b1:Below w.heap.size w (w.alloc (.cells S.vs.toArray 56)):=blA
 have hl1:=H1.ld
 obtain⟨m,hm⟩:∃m,S.may=m:=⟨_,rfl⟩
 go_enter Tryz.func72,Tryz.ntmps72
 go_wp2_with fail
 generalize w.alloc (.cells S.vs.toArray 56)=w1 at H1 b1 hl1 ⊢
 refine (q5f S m hm hf w1).mono ?_
 rintro e w2 ⟨rfl,hb2⟩
 have H2:=H1.below hb2 H1.lt
 have B2:=b1.trans (hb2.mono b1.size)
 have hl2:=H2.ld
 have q0:=H2.c0
 have q1:=H2.c1
 have q2:=H2.c2
 clear H1 hl1 hb2 b1
 cases m
 ·have hno:swOk S slot=false:=by unfold swOk;rw[hm];rfl
  obtain⟨h1,h2⟩:=qhu hno
  go_wp2
  go_ret2
  rw[h1,h2]
  exact⟨_,_,_,rfl,own_none _ _ _,B2⟩
 ·by_cases hsl:0≤slot∧slot≤1
  ·have hok:swOk S slot=true:=by unfold swOk;rw[hm,decide_eq_true hsl];rfl
   obtain⟨h1,h2,h3,h4⟩:=q9p hok
   have h1h:=Lib.hid h1
   have h2h:=Lib.hid h2
   have h3h:=Lib.hid h3
   have h4h:=Lib.hid h4
   have hvn:=q49 hm
   have d0:decide (slot<0)=false:=decide_eq_false (by omega)
   have d1:decide (1<slot)=false:=decide_eq_false (by omega)
   clear hsl h1 h2 h3 h4 hok
   go_wp2_with fail
   have hS:∀w':World,Below w2.heap.size w2 w'→w'.cell? ⟨w.heap.size,1,none⟩=some (.int .i64 S.sectors)∧w'.cell? ⟨w.heap.size,2,none⟩=some (.int .i64 S.log)∧Below w2.heap.size w2 w':=
    fun w' hb=>⟨(hb.cell (p:=⟨w.heap.size,1,none⟩) H2.lt).trans q1,(hb.cell (p:=⟨w.heap.size,2,none⟩) H2.lt).trans q2,hb⟩
   have BD:Below w2.heap.size w2 w2.drew:=(Below.refl _ _).drew
   have zd:w2.heap.size≤w2.drew.heap.size:=Nat.le_refl _
   have p0:(0:Nat)≤17592186044416:=by omega
   have p1:(1:Int)≤2:=by omega
   have p2:(2:Int)≤8:=by omega
   go_region_held3 (fun w'=>w'.cell? ⟨w.heap.size,1,none⟩=some (.int .i64 S.sectors)∧w'.cell? ⟨w.heap.size,2,none⟩=some (.int .i64 S.log)∧Below w2.heap.size w2 w')
    (first|assumption|exact hS _ BD|exact hS _ bb3|exact hS _ bb4)
    (first
     |(have hh:=bb3;go_at_call 124;refine (q2n A3 n3 c3 _ S.log 2 _ own3.sl q3 p1 p2).mono ?_;rintro e w4 ⟨A4,n4,c4,rfl,own4,hn4,hb4⟩;have bb4:Below w2.heap.size w2 w4:=bb3.trans (hb4.mono (Below.size bb3)))
     |(go_at_call 124;refine (q2n none 0 0 [] S.sectors 2 _ (q0k _) p0 p1 p2).mono ?_;rintro e w3 ⟨A3,n3,c3,rfl,own3',hn3,hb3⟩;have own3:Own w3 w2.heap.size 5 A3 n3 c3 _:=own3';have bb3:Below w2.heap.size w2 w3:=BD.trans (hb3.mono zd);have q3:n3≤17592186044416:=by omega)
     |fail)
   have e4:[]++dig S.sectors (2:Int).toNat++dig S.log (2:Int).toNat=bodyTo S 0:=by rw[q5n];rfl
   rw[e4] at own4
   have own4:=own4.less (Below.size bb3)
   have hn4':n4≤4:=by omega
   clear hS BD own3 own3' hn3 hb3 hb4 hn4 e4 q1 q2 hl2
   go_wp2_with fail
   go_loopw [7,8] (fun b i wr=>∃(k:Nat) (A:Option Addr) (n c:Nat),k≤8∧n≤4+18*k∧b=.slice A n c∧i=.int .i64 (k:Int)∧Own wr w2.heap.size 5 A n c (bodyTo S k)∧Below w2.heap.size w2 wr) (fun _ i _=>8-(intOf i).toNat)
   case atStart=>exact⟨0,A4,n4,c4,by omega,by omega,rfl,rfl,own4,bb4⟩
   case round=>
    clear own4 bb4
    obtain⟨k,A,n,c,hk,hn,rfl,rfl,own,hB⟩:=hrel
    by_cases hlt:k<8
    ·have hk0:(0:Int)≤(k:Int):=by omega
     have Hr:=H2.below hB H2.lt
     obtain⟨c0,c1,c2,c3⟩:=Hr.four hlt
     have hnx:=Lib.hid (q5o S hlt)
     have hsz:=hvn k hlt
     obtain⟨x,hx⟩:∃x,S.at_ k=x:=⟨_,rfl⟩
     rw[hx] at c0 c1 c2 c3 hsz hnx
     clear hx
     obtain⟨l0,hl0⟩:∃l0,bodyTo S k=l0:=⟨_,rfl⟩
     rw[hl0] at own hnx
     clear hl0
     have bx:Below wr.heap.size wr (wr.alloc (.cells #[.string x.name,.bool x.ro,.int .i64 x.root,.int .i64 x.next] 32)):=blA
     have hBx:=hB.trans (bx.mono hB.size)
     have V0:VB (wr.alloc (.cells #[.string x.name,.bool x.ro,.int .i64 x.root,.int .i64 x.next] 32)) wr.heap.size x:=VB.new wr x _
     have ownx:=own.below bx
     have v0:=V0.c0
     go_wp2_with fail
     clear c0 c1 c2 c3 own
     generalize wr.alloc (.cells #[.string x.name,.bool x.ro,.int .i64 x.root,.int .i64 x.next] 32)=wx at bx hBx V0 ownx v0 ⊢
     obtain⟨bk,hbk⟩:∃bk,wr.heap.size=bk:=⟨_,rfl⟩
     rw[hbk] at V0 v0 ⊢
     have hbk2:w2.heap.size≤bk:=by have:=hB.size;omega
     refine (q2n A n c l0 (x.name.size:Int) 1 wx ownx.sl (by omega) (by omega) (by omega)).mono ?_
     rintro e w5 ⟨A5,n5,c5,rfl,own5,hn5,hb5⟩
     obtain⟨l5,hl5⟩:∃l5,l0++dig (x.name.size:Int) (1:Int).toNat=l5:=⟨_,rfl⟩
     rw[hl5] at own5
     have Hl5:=Lib.hid hl5
     clear hl5
     have V5:=V0.below hb5 V0.lt
     have hB5:=hBx.trans (hb5.mono hBx.size)
     have v5:=V5.c0
     have hcv:=qkn x.name w5
     have bc:=q2g w5 5 x.name
     have sc:=q4t w5 5 x.name (by unfold maxLen;omega)
     generalize Lib.bytesWorld w5 5 x.name=wc at hcv bc sc
     generalize grownCap w5 x.name.size 0 5=cc at hcv sc
     have ownc:=own5.below bc
     have bx5:=hb5
     have bxc:=bx5.trans (bc.mono bx5.size)
     clear v0 ownx hb5
     go_wp2_with (at_builtin;refine q0x _ T22 rfl _ _ rfl wx.heap.size A5 n5 c5 _ rfl ownc _ _ _ _ rfl sc (by omega) bxc.size ?_)
     intro A6 c6 w6 own6 hb6
     have bx6:=bxc.trans hb6
     have v6:=(V0.below bx6 V0.lt).c0
     have epad:=Lib.hid (qr6 x.name l5 hsz)
     obtain⟨l1,hl1⟩:∃l1,l5++x.name.data.toList=l1:=⟨_,rfl⟩
     rw[hl1] at own6
     have epad2:=Lib.hid (epad.out)
     have Hl1:=Lib.hid hl1
     have hn6:n5+x.name.size≤n+1+x.name.size:=by omega
     clear hl1 epad sc bc ownc own5 v5 hcv V5 hB5 bx5 bxc hb6
     go_wp2_with fail
     go_loopw [7,10] (fun b i wr=>∃(q m:Nat) (A:Option Addr) (c:Nat),x.name.size≤q∧q≤10∧m≤n+1+q∧b=.slice A m c∧i=.int .i64 (q:Int)∧Own wr wx.heap.size 5 A m c (filR l1 (q-x.name.size))∧Below wx.heap.size wx wr) (fun _ i _=>10-(intOf i).toNat)
     case atStart=>exact⟨x.name.size,_,A6,c6,by omega,by omega,hn6,rfl,rfl,by rw[Nat.sub_self,qe6];exact own6,bx6⟩
     case round=>
      clear own6 bx6 hn6 v6
      obtain⟨q,m,A7,c7,hq1,hq2,hm7,rfl,rfl,own7,bx7⟩:=hrel
      by_cases hlq:q<10
      ·have hone:=qej wr 5 0 (.int .u8 0) rfl
       have own7':=own7.alloc (.cells #[.int .u8 0] 5)
       have hzr:=bx7.size
       have hm8:m+1≤n+1+(q+1):=by omega
       go_wp2_with (at_builtin;refine q0x _ T22 rfl _ _ rfl wx.heap.size _ _ _ _ rfl own7' _ _ _ _ rfl hone.sl (by omega) (by simp;omega) ?_)
       intro A8 c8 w8 own8 hb8
       have hb8:=q2p _ hb8 hzr
       rw[qe5,show q-x.name.size+1=(q+1)-x.name.size by omega] at own8
       go_wp2
       exact⟨⟨q+1,_,_,_,by omega,by omega,hm8,rfl,by go_num,own8,bx7.trans hb8⟩,by simp[intOf];omega⟩
      ·obtain rfl:q=10:=by omega
       have e7:filR l1 (10-x.name.size)=l5++padL x.name:=by rw[←Hl1.out];exact epad2.out
       rw[e7] at own7
       have V7:=V0.below bx7 V0.lt
       have r1:=V7.c1
       have r2:=V7.c2
       have r3:=V7.c3
       have hm9:m≤17592186044416:=by omega
       have hm10:m≤4+18*k+11:=by omega
       clear e7 hq1 hq2 hlq hm7
       have hS:∀w':World,Below wr.heap.size wr w'→w'.cell? ⟨bk,2,none⟩=some (.int .i64 x.root)∧w'.cell? ⟨bk,3,none⟩=some (.int .i64 x.next)∧Below wr.heap.size wr w':=
        fun w' hb=>⟨(hb.cell (p:=⟨bk,2,none⟩) V7.lt).trans r2,(hb.cell (p:=⟨bk,3,none⟩) V7.lt).trans r3,hb⟩
       have BD:Below wr.heap.size wr wr.drew:=(Below.refl _ _).drew
       have zd:wr.heap.size≤wr.drew.heap.size:=Nat.le_refl _
       have p1:(1:Int)≤1:=by omega
       have p2:(1:Int)≤8:=by omega
       have p3:(1:Int)≤2:=by omega
       have p4:(2:Int)≤8:=by omega
       have p5:(1:Int)≤4:=by omega
       have p6:(4:Int)≤8:=by omega
       obtain⟨ro,hro⟩:∃ro,x.ro=ro:=⟨_,rfl⟩
       rw[hro] at r1
       have Hro:=Lib.hid hro
       clear hro
       cases ro
       all_goals
        go_wp2_with fail
        go_region_held3 (fun w'=>w'.cell? ⟨bk,2,none⟩=some (.int .i64 x.root)∧w'.cell? ⟨bk,3,none⟩=some (.int .i64 x.next)∧Below wr.heap.size wr w')
         (first|assumption|exact hS _ BD|exact hS _ bb8|exact hS _ bb9|exact hS _ bb10)
         (first
          |(have hh:=bb9;go_at_call 124;refine (q2n A9 n9 c9 _ x.next 4 _ own9.sl q9 p5 p6).mono ?_;rintro e w10 ⟨A10,n10,c10,rfl,own10,hn10,hb10⟩;have bb10:Below wr.heap.size wr w10:=bb9.trans (hb10.mono (Below.size bb9)))
          |(have hh:=bb8;go_at_call 124;refine (q2n A8 n8 c8 _ x.root 2 _ own8.sl q8 p3 p4).mono ?_;rintro e w9 ⟨A9,n9,c9,rfl,own9,hn9,hb9⟩;have bb9:Below wr.heap.size wr w9:=bb8.trans (hb9.mono (Below.size bb8));have q9:n9≤17592186044416:=by omega)
          |(go_at_call 124;refine (q2n A7 m c7 _ _ 1 _ own7.sl.drew hm9 p1 p2).mono ?_;rintro e w8 ⟨A8,n8,c8,rfl,own8',hn8,hb8⟩;have own8:Own w8 wr.heap.size 5 A8 n8 c8 _:=own8';have bb8:Below wr.heap.size wr w8:=BD.trans (hb8.mono zd);have q8:n8≤17592186044416:=by omega)
          |fail)
        have hB10:Below w2.heap.size w2 w10:=hBx.trans ((bx7.trans (bb10.mono bx7.size)).mono hBx.size)
        have hn11:n10≤4+18*(k+1):=by omega
        have own11:=own10.less (show w2.heap.size≤w9.heap.size by have h1:=hBx.size;have h2:=bx7.size;have h3:=Below.size bb9;omega)
        have e11:∀z:Int,z=dgt x.ro→l5++padL x.name++dig z (1:Int).toNat++dig x.root (2:Int).toNat++dig x.next (4:Int).toNat=bodyTo S (k+1):=by
         rintro z rfl
         rw[hnx.out,←Hl5.out]
         unfold volB
         simp only[List.append_assoc]
         rfl
        rw[e11 _ (by rw[Hro.out];rfl)] at own11
        clear own10 own9 own8 own8' own7 hn8 hn9 hn10 hS BD e11
        go_wp2
        exact⟨⟨k+1,_,_,_,by omega,hn11,rfl,by go_num,own11,hB10⟩,by simp[intOf];omega⟩
    ·have hk8:k=8:=by omega
     have hB2:=B2.trans (hB.mono B2.size)
     have g0:=(H2.below hB H2.lt).c0
     rw[hk8] at own
     have own:Own wr w2.heap.size 5 A n c (bodyB S):=own
     go_wp2_with fail
     refine (q2w (hdS S slot) A n c _ wr own.sl).mono ?_
     rw[h3h.out,h4h.out]
     rintro e w6 ⟨A6,n6,c6,rfl,s6,hb6⟩
     go_wp2
     go_ret2
     rw[h1h.out,h2h.out]
     exact⟨_,_,_,rfl,s6.less hB2.size,hB2.trans (hb6.mono hB2.size)⟩
  ·have hno:swOk S slot=false:=by unfold swOk;rw[hm,decide_eq_false hsl];rfl
   obtain⟨h1,h2⟩:=qhu hno
   rcases (by omega:slot<0∨(0≤slot∧1<slot)) with h|h
   ·have d0:decide (slot<0)=true:=decide_eq_true h
    clear hsl h
    go_wp2
    go_ret2
    rw[h1,h2]
    exact⟨_,_,_,rfl,own_none _ _ _,B2⟩
   ·have d0:decide (slot<0)=false:=decide_eq_false (by omega)
    have d1:decide (1<slot)=true:=decide_eq_true h.2
    clear hsl h
    go_wp2
    go_ret2
    rw[h1,h2]
    exact⟨_,_,_,rfl,own_none _ _ _,B2⟩
theorem qbb (S:Sp)(slot:Int)(hf:S.fine)(w:World) :
  Calls Tryz.prog 72 #[.agg S.vs.toArray,.int .i64 slot] w fun e w'=>
   ∃A' n' c',e=.returned (.tuple #[.slice A' n' c',.int .i64 (swE S slot)])∧Sl w' A' n' c' (swB S slot)∧Below w.heap.size w w':=by
 refine (q3p S slot hf w).mono ?_
 rintro e w' ⟨A',n',c',rfl,own,hb⟩
 exact⟨A',n',c',rfl,own.sl,hb⟩
end
end Go.Proofs.YtipejjgodnnkaaaGreatDoor
