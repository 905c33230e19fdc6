/- PoolShared's walk. -/
import Derived.Test.YtipejjgodnnkaaaGreatDoorPy25
import Derived.Test.YtipejjgodnnkaaaGreatDoorPoLa
namespace Go.Proofs.YtipejjgodnnkaaaGreatDoor
open Go Go.RowKit Go.Proofs

set_option maxRecDepth 100000 in
set_option maxHeartbeats 16000000 in
theorem poolShared_walk (A : Option Addr) (n c : Nat) (ls : List (List UInt8)) (A2 : Option Addr) (n2 c2 : Nat) (ls2 : List (List UInt8)) (A3 : Option Addr) (n3 c3 : Nat) (ls3 : List (List UInt8)) (w : World) (hp1 : Parts w A n c ls) (hp2 : Parts w A2 n2 c2 ls2) (hp3 : Parts w A3 n3 c3 ls3) (ht : Tab w) :
    Calls Tryz.prog 6 #[.slice A n c, .slice A2 n2 c2, .slice A3 n3 c3] w fun e w' => e = .returned (.bool true) ∧ Below w.heap.size w w' := by
  have hG := ht.1
  go_enter Tryz.func6, Tryz.ntmps6
  go_wp2_with fail
  refine (pshown_any w ht).mono ?_
  rintro e w1 ⟨rfl, b1⟩
  have t1 := ht.below b1 hG
  go_wp2_with fail
  refine (new_yes 64 ⟨by omega, by omega⟩ w1).mono ?_
  rintro e w3 ⟨d, rfl, L3, b3⟩
  have t3 := t1.below b3 t1.1
  have z1 := b1.size
  have z3 := b3.size
  have B3 := b1.trans (b3.mono z1)
  have L3 : Drv w3 d (fun k => w.heap.size ≤ k) (DM.mk0 64) := L3.mono fun k _ h => by omega
  have hfm := pformat_any L3 ⟨rfl, rfl⟩ (by omega) t3 (tame_mk0 64) (by omega)
  have hmn : (DM.mk0 64).n = 64 := rfl
  rw [hmn] at hfm
  obtain ⟨D1, hD1⟩ : ∃ D, (DM.mk0 64).runD (fmtL 64) = D := ⟨_, rfl⟩
  rw [hD1] at hfm
  have hfree : (Pl.fresh 64).C.free = 60 := by
    show (Ct.zero 64).free = 60
    rw [Ct.zero_free]
    decide
  obtain ⟨P0, hP0⟩ : ∃ P, Pl.fresh 64 = P := ⟨_, rfl⟩
  rw [hP0] at hfm hfree
  clear hD1 hmn hP0
  go_wp2_with fail
  refine hfm.mono ?_
  rintro e w5 ⟨p, qq, rfl, X5⟩
  have H5 := sys_of (b := w.heap.size) X5 (fun k hk => hk) B3.size
  have t5 := t3.turned X5.turn (by omega)
  have B5 := B3.trans (X5.turn.below (fun k hk => hk) B3.size)
  obtain ⟨S0, S, H5⟩ := H5
  clear X5 hfm L3
  go_wp2_with fail
  refine (plays_any A n c ls hp1 B5 (Nat.le_refl _) H5 hG t5 (by omega)).mono ?_
  rintro e w6 ⟨Aa, na, ca, an, P1, rfl, ha6, han, R6, H6, L6, X6, t6⟩
  have z6 := X6.size
  have B6 := B5.trans (H5.belowS X6 (fun k hk => .inr hk))
  have hSlt : ∀ k, S k → k < w5.heap.size := fun k hk => (H5.tight k (H5.subS k hk)).2
  go_wp2_with fail
  refine (pclone_any H6).mono ?_
  rintro e w7 ⟨q, rfl, b7, Hp7, Hq7⟩
  have z7 := b7.size
  have B7 := B6.trans (b7.mono B6.size)
  have t7 := t6.below b7 t6.1
  have R7 := R6.below b7
  have hf1 := L6.free
  have hl6 := R6.len
  go_wp2_with fail
  refine (plays_any A2 n2 c2 ls2 hp2 B7 (Nat.le_refl _) Hp7 hG t7 (by omega)).mono ?_
  rintro e w8 ⟨Ab, nb, cb, bn, P2, rfl, hb6, hbn, R8, Hp8, L8, X8, t8⟩
  have z8 := X8.size
  have B8 := B7.trans (Hp7.belowS X8 (fun k hk => .inr hk))
  have Hq8 := Hq7.own X8 (fun k hk => Hp7.subS k hk) (fun k hk h0 => Hp7.apart k h0 hk) (fun k hk h2 => by have := hSlt k hk; omega)
  have R7' := R7.turned X8 (fun k hk h => by have := hSlt k h; have := (R6.lt k hk).1; omega)
  have hl8 := R8.len
  have hf2 := L8.free
  go_wp2_with fail
  refine (plays_any A3 n3 c3 ls3 hp3 B8 (Nat.le_refl _) Hq8 hG t8 (by omega)).mono ?_
  rintro e w9 ⟨Ac, nc, cc, cn, P3, rfl, hc6, hcn, R9, Hq9, L9, X9, t9⟩
  have z9 := X9.size
  have B9 := B8.trans (Hq8.belowS X9 (fun k hk => .inr hk))
  have Hp9 := Hp8.own X9 (fun k hk => Hq8.subS k hk) (fun k hk h0 => Hq8.apart k h0 hk) (fun k hk h2 => by have := hSlt k h2; omega)
  have Ra := R7'.turned X9 (fun k hk h => by have := (R6.lt k hk).2; omega)
  have Rb := R8.turned X9 (fun k hk h => by have := (R8.lt k hk).1; omega)
  have hl9 := R9.len
  have hf3 := L9.free
  obtain ⟨f2, hf2'⟩ : ∃ f, P2.C.free = f := ⟨_, rfl⟩
  obtain ⟨f3, hf3'⟩ : ∃ f, P3.C.free = f := ⟨_, rfl⟩
  have i2 : (60 : Int) - (na : Int) - (nb : Int) = (f2 : Int) := by omega
  have i3 : (60 : Int) - (na : Int) - (nc : Int) = (f3 : Int) := by omega
  have hp9 := sys_free Hp9.sys f2 hf2'
  have hq9 := sys_free Hq9.sys f3 hf3'
  have k1 : ∀ (i a : Nat), an[i]? = some a → P2.live a = some (.bytes 5 (cut128 (nth ls i))) := fun i a h => L8.keep _ _ (L6.has i a h)
  have k2 : ∀ (i a : Nat), an[i]? = some a → P3.live a = some (.bytes 5 (cut128 (nth ls i))) := fun i a h => L9.keep _ _ (L6.has i a h)
  have k3 := L8.has
  have k4 := L9.has
  clear X6 X8 X9 Hp7 Hq7 Hp8 Hq8 R6 R7 R7' R8 L6 L8 L9 H5 H6 hf1 hf2 hf3 b7
  go_wp2_with (first
    | (go_at_call 35; refine hq9.mono ?_; rintro e w10 ⟨rfl, rfl⟩)
    | (go_at_call 35; refine hp9.mono ?_; rintro e w10 ⟨rfl, rfl⟩)
    | fail)
  refine (phas_any A n c ls hp1 B9 Hp9 t9 Aa na ca an Ra han k1).mono ?_
  rintro e u1 ⟨rfl, c1_⟩
  have C1 := B9.trans (c1_.mono B9.size)
  have s1 := t9.below c1_ t9.1
  go_wp2_with fail
  refine (phas_any A n c ls hp1 C1 (Hq9.below c1_) s1 Aa na ca an (Ra.below c1_) han k2).mono ?_
  rintro e u2 ⟨rfl, c2_⟩
  have C2 := C1.trans (c2_.mono C1.size)
  have s2 := s1.below c2_ s1.1
  go_wp2_with fail
  refine (phas_any A2 n2 c2 ls2 hp2 C2 ((Hp9.below c1_).below c2_) s2 Ab nb cb bn ((Rb.below c1_).below c2_) hbn k3).mono ?_
  rintro e u3 ⟨rfl, c3_⟩
  have C3 := C2.trans (c3_.mono C2.size)
  have s3 := s2.below c3_ s2.1
  go_wp2_with fail
  refine (phas_any A3 n3 c3 ls3 hp3 C3 (((Hq9.below c1_).below c2_).below c3_) s3 Ac nc cc cn (((R9.below c1_).below c2_).below c3_) hcn k4).mono ?_
  rintro e u4 ⟨rfl, c4_⟩
  go_wp2_with fail
  go_ret
  exact ⟨rfl, C3.trans (c4_.mono C3.size)⟩
end Go.Proofs.YtipejjgodnnkaaaGreatDoor
