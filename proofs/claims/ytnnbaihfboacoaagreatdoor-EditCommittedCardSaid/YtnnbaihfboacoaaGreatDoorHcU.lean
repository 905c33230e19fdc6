/- The laws of edit: a change kept in a block of its own. -/
import Derived.Test.YtnnbaihfboacoaaGreatDoorEu41
namespace Go.Proofs.YtnnbaihfboacoaaGreatDoor
open Go Go.RowKit Go.Proofs
theorem Qe8 {ops:Array Oper}{d:List Oper}{o:Oper}{a:Act}{w:World}{Q:Exit->Act->World->Prop}(u:o.guard=none)(x y:Operand)(e:o.op=Op.store 33 x y)
  (b:Nat) (A:a.eval x=.pointer (some ⟨b,0,none⟩)) (z:Int) (k:Kd) (V:Option Addr) (q c:Nat) (B:a.eval y=.agg #[.int .i64 z,.int .i64 k.obj,.int .i64 k.kind,.int .i64 k.off,.slice V q c]) {r:List Value} (H:RB w b r) (m:r.length=5)
  (p:∀f,RB f b (Qaq z k V q c)->Turn (λg=>g=b) w f->wpList Tryz.prog ops Q d (a.put o.dst undef) f):wpList Tryz.prog ops Q (o::d) a w:=
 wpList_store_mid u _ x y e b 0 (Qaq z k V q c).toArray A B (by have:=H.there;rw[m] at this;exact this) (by kernel_rfl) (by simp[Qaq,Value.oneCell'])
  (p _ (H.stored (Qaq z k V q c) m) (Us (S:=λg=>g=b) rfl _ 0 w))
theorem Qf7 {w:World}{b:Nat}{z:Int}{k:Kd}{V:Option Addr}{q c:Nat}(H:RB w b (Qaq z k V q c))(d:Int):RB (w.setCell ⟨b,0,none⟩ (.int .i64 d)) b (Qaq d k V q c):=by
 obtain⟨t,h⟩:=H;exact⟨t,Fa _ h⟩
theorem Qfx {x:Int}:md (md x 7:Int) 8≠7:=by
 have h:=quq x (show 0<7 by omega);have e:md (md x 7:Int) 8=md x 7:=by
  generalize md x 7=q at h;unfold md;rw[if_neg (by omega)];omega
 omega
