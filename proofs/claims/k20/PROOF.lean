import PyProof.Rows.All
import Wide.All
import OpenK.AllK
import Wide.FinOn
import HandS.ForMost
import HandS.ForExc
import HandS.SetBool
import HandS.Strs
import PyProof.Rows.SortShellAny
import HandS.Wide
import HandS.TupAny
import HandS.TupMul
import HandS.DictComp
import HandS.IsInst
import HandS.More
import HandS.Conv
import HandS.Text
import HandS.StrMore
import HandS.NoneIn
import HandS.Style
import HandS.AnyAll
import KE.DataMinMax
import HandS.WideBits
import HandS.Defaults
import HandS.SortKw
import HandS.ListItems
import HandS.SlotsOwn
import PyProof.InstEq
import KE.KExcIs
import HandS.ExcValue
import HandS.ExcIs
import HandS.ExcInit
import HandS.ExcField
import PyProof.ReprRoads
import HandS.DictTup
import KE.KSortTupAny
import PyProof.CallFns
import HandS.MakeKwOnly
import PyProof.Rows.EqMixed
import HandS.Property
import KE.KMethU
import HandS.OwnEq
import KE.DataCmp
import PySem.Challenge.RW_laterthemes_k20_claims_made
set_option Elab.async false
set_option linter.all false
set_option maxRecDepth 100000
set_option maxHeartbeats 2000000
/-! Sets of texts: made, filled, walked. -/
namespace Vs
open PySem PySem.Spec PyProof.Rows L2
noncomputable def sx (e : Int × Value) : Str := match e.2 with
  | .str x _ => x
  | _ => Str.empty
noncomputable def addS (r : List Str) (x : Str) : List Str := if r.any (· == x) then r else r ++ [x]
/-- the set at a has these texts; its table rises, so that it can be walked -/
noncomputable def StA (w : World) (h : Heap) (a : Addr) (L : List Str) : Prop :=
  ∃ (ob : Obj) (el : Array (Int × Value)) (ep : Nat) (tb : SetTable), h.get? a = some ob ∧ ob.ExactSet ∧ ob.data = .set el ep tb ∧ (∀ e ∈ el.toList, ∃ x c, e = (hashStr w x, Value.str x c)) ∧ (el.toList.map sx).Perm L ∧ L.Nodup ∧
    el.size < scanBound ∧ tb.fits el.size = true ∧ Ris tb.place.toList ∧ (w.params.followText "set-order" = true ∨ tb.led = true)
theorem StA.at {w : World} {h h' : Heap} {a : Addr} {L : List Str} (R : StA w h a L) (k : ∀ o, h.get? a = some o → h'.get? a = some o) : StA w h' a L := by
  obtain ⟨ob, el, ep, tb, e, r⟩ := R
  exact ⟨ob, el, ep, tb, k ob e, r⟩
section
variable {P : Program} {w : World} {A : Around} {E : Value → Shared → Prop} {s : Shared} {a : Addr} {L : List Str}
end
/-- the set as a tracked thing -/
noncomputable def SStO (w : World) (a : Addr) (L : List Str) : HO := .ext fun h => StA w h a L
section
variable {X : Cx} {pins : List (Addr × Obj)} {σ : L2.St} {H : Hp} {s : Shared} {a : Addr} {L : List Str}
end
end Vs
/-! {a text for .. in .. if ..} -/
namespace Vs
open PySem PySem.Spec PyProof.Rows L2 PpSet
section
variable {X : Cx}
end
end Vs
/-! An executable reading of the text: values, a store of numbered objects, denotations; and how they stand to the hand layer's readings. -/
namespace Vs
open PySem L2

/-! ### values, objects, the store -/
inductive W where
  | non | bl (b : Bool) | int (i : Int) | str (x : Str) | loc (l : Nat)
  deriving DecidableEq, Inhabited
inductive O where
  | lst (xs : List W) | tup (xs : List W) | dic (kvs : List (Key × W)) | ins (c : Nat) (fs : List (Str × W)) | scr (xs : List Int) | fdic (kvs : List (Key × W)) | exn (c : Nat) (d : Nat) | xdc (f : Str) (w : W) | sst (L : List Str)
  deriving Inhabited
noncomputable abbrev Mem := List O
inductive Rs (α : Type) where
  | ok (a : α) (m : Mem) | exc (c : Nat) (w : W) (m : Mem) | bad
noncomputable def Rs.bind {α β : Type} : Rs α → (α → Mem → Rs β) → Rs β
  | .ok a m, k => k a m
  | .exc c w m, _ => .exc c w m
  | .bad, _ => .bad
noncomputable def wpR {α : Type} (r : Rs α) (P : α → Mem → Prop) (E : Nat → W → Mem → Prop) : Prop := match r with
  | .ok a m => P a m
  | .exc c w m => E c w m
  | .bad => False
theorem wpR_bind {α β : Type} {r : Rs α} {k : α → Mem → Rs β} {P : β → Mem → Prop} {E : Nat → W → Mem → Prop} : wpR (r.bind k) P E ↔ wpR r (fun a m => wpR (k a m) P E) E := by
  cases r <;> exact Iff.rfl
theorem Zbv {α : Type} {r : Rs α} {P P' : α → Mem → Prop} {E E' : Nat → W → Mem → Prop} (h : wpR r P E) (p : ∀ a m, P a m → P' a m) (e : ∀ c w m, E c w m → E' c w m) : wpR r P' E' := by
  cases r with
  | ok a m => exact p a m h
  | exc c w m => exact e c w m h
  | bad => exact h

noncomputable abbrev En := List (Option W)
noncomputable abbrev EM := En → Mem → Rs W
noncomputable abbrev TM := En → Mem → Rs Bool
noncomputable abbrev AM := En → Mem → Rs (List W)
inductive Fl where
  | nx (σ : En) | rt (w : W) | bk (σ : En) | ct (σ : En)
noncomputable abbrev SM := En → Mem → Rs Fl
noncomputable abbrev Fn := List W → Mem → Rs W

/-! ### the relation; c ↦ G.ct c: where the class stands -/
structure Gt where
  K : PySem.W.Frag
  ct : Nat → Addr
  w : World
/-- where our objects stand; what is known of the locked ones -/
structure Rho where
  ad : List Addr
  fz : Addr → Option Obj
noncomputable def Rho.push (ρ : Rho) (p : Addr) : Rho := ⟨ρ.ad ++ [p], ρ.fz⟩
noncomputable def RV (ρ : Rho) : W → V → Prop
  | .non, v => v = .non
  | .bl b, v => v = .bl b
  | .int i, v => v = .int i
  | .str x, v => v = .str x
  | .loc l, v => ∃ a, ρ.ad[l]? = some a ∧ v = .ref a
noncomputable abbrev RVs (ρ : Rho) : List W → List V → Prop := Paired (RV ρ)
noncomputable def RO (ρ : Rho) : Option W → Option V → Prop
  | some w, some v => RV ρ w v
  | some _, none => False
  | none, _ => True
noncomputable abbrev RS (ρ : Rho) : En → L2.St → Prop := Paired (RO ρ)
noncomputable abbrev RK {κ : Type} (ρ : Rho) : List (κ × W) → List (κ × V) → Prop := Paired fun p q => p.1 = q.1 ∧ RV ρ p.2 q.2
/-- an exception of the class at C that was caught and is kept, its dict at d -/
noncomputable def exnO (a C d : Addr) : HO := .ext fun h => ∃ (oe : Obj) (vs : Array Value), h.get? a = some oe ∧ Zc (.ref C) (some d) oe ∧ oe.data = .fields vs
noncomputable def Ob (G : Gt) (ρ : Rho) (H : Hp) (a : Addr) : O → Prop
  | .lst xs => ∃ vs, H a = some (.lst vs) ∧ RVs ρ xs vs
  | .tup xs => ∃ vs, H a = some (.tup vs) ∧ RVs ρ xs vs
  | .dic kvs => ∃ ks, H a = some (.dK ks) ∧ RK ρ kvs ks
  | .ins c fs => ∃ dx vs, H a = some (.ins (G.ct c) dx vs) ∧ RK ρ fs vs
  | .scr ns => ∃ o, H a = some (.frz o (.lst (ns.map V.int)))
  | .fdic kvs => ∃ o ks, ρ.fz a = some o ∧ H a = some (.frz o (.dK ks)) ∧ RK ρ kvs ks
  | .exn c dl => ∃ d, ρ.ad[dl]? = some d ∧ H a = some (exnO a (G.ct c) d)
  | .xdc f w => ∃ v, H a = some (.xd [(f, v)]) ∧ RV ρ w v
  | .sst L => H a = some (SStO G.w a L)
structure Rel (G : Gt) (ρ : Rho) (μ : Mem) (H : Hp) : Prop where
  len : ρ.ad.length = μ.length
  inj : ∀ (i j : Nat) (a : Addr), ρ.ad[i]? = some a → ρ.ad[j]? = some a → i = j
  obj : ∀ (l : Nat) (o : O) (a : Addr), μ[l]? = some o → ρ.ad[l]? = some a → Ob G ρ H a o
/-- ρ grows -/
noncomputable def Gr (ρ ρ' : Rho) : Prop := (∀ (l : Nat) (a : Addr), ρ.ad[l]? = some a → ρ'.ad[l]? = some a) ∧ ρ'.fz = ρ.fz
theorem Gr.refl (ρ : Rho) : Gr ρ ρ := ⟨fun _ _ h => h, rfl⟩
theorem Gr.trans {a b c : Rho} (h : Gr a b) (h' : Gr b c) : Gr a c := ⟨fun l x e => h'.1 l x (h.1 l x e), h'.2.trans h.2⟩
theorem Gr.snoc (ρ : Rho) (p : Addr) : Gr ρ (ρ.push p) := ⟨fun l a e => by
  obtain ⟨h, _⟩ := List.getElem?_eq_some_iff.mp e
  show (ρ.ad ++ [p])[l]? = some a
  rw [List.getElem?_append_left h]
  exact e, rfl⟩
section
variable {ρ ρ' : Rho}
theorem RV.mono (g : Gr ρ ρ') : ∀ {w : W} {v : V}, RV ρ w v → RV ρ' w v
  | .non, _, h => h
  | .bl _, _, h => h
  | .int _, _, h => h
  | .str _, _, h => h
  | .loc l, _, ⟨a, e, h⟩ => ⟨a, g.1 l a e, h⟩
theorem RVs.mono (g : Gr ρ ρ') {ws : List W} {vs : List V} (h : RVs ρ ws vs) : RVs ρ' ws vs := Paired.mapP h fun _ _ r => r.mono g
theorem RK.mono {κ : Type} (g : Gr ρ ρ') {ws : List (κ × W)} {vs : List (κ × V)} (h : RK ρ ws vs) : RK ρ' ws vs := Paired.mapP h fun _ _ r => ⟨r.1, r.2.mono g⟩
theorem RO.mono (g : Gr ρ ρ') : ∀ {w : Option W} {v : Option V}, RO ρ w v → RO ρ' w v
  | some _, some _, h => RV.mono g h
  | some _, none, h => h
  | none, _, _ => True.intro
theorem RS.mono (g : Gr ρ ρ') {ws : En} {vs : L2.St} (h : RS ρ ws vs) : RS ρ' ws vs := Paired.mapP h fun _ _ r => r.mono g
theorem Ob.mono {G : Gt} {H : Hp} {a : Addr} (g : Gr ρ ρ') : ∀ {o : O}, Ob G ρ H a o → Ob G ρ' H a o
  | .lst _, ⟨vs, e, r⟩ => ⟨vs, e, RVs.mono g r⟩
  | .tup _, ⟨vs, e, r⟩ => ⟨vs, e, RVs.mono g r⟩
  | .dic _, ⟨vs, e, r⟩ => ⟨vs, e, RK.mono g r⟩
  | .ins _ _, ⟨dx, vs, e, r⟩ => ⟨dx, vs, e, RK.mono g r⟩
  | .scr _, h => h
  | .fdic _, ⟨o, ks, e, h, r⟩ => ⟨o, ks, by rw [g.2]; exact e, h, RK.mono g r⟩
  | .exn _ dl, ⟨d, e, h⟩ => ⟨d, g.1 dl d e, h⟩
  | .xdc _ _, ⟨v, e, r⟩ => ⟨v, e, RV.mono g r⟩
  | .sst _, h => h
/-- the same object elsewhere -/
theorem Ob.at {G : Gt} {H H' : Hp} {a : Addr} (e : H' a = H a) : ∀ {o : O}, Ob G ρ H a o → Ob G ρ H' a o
  | .lst _, ⟨vs, h, r⟩ => ⟨vs, e.trans h, r⟩
  | .tup _, ⟨vs, h, r⟩ => ⟨vs, e.trans h, r⟩
  | .dic _, ⟨vs, h, r⟩ => ⟨vs, e.trans h, r⟩
  | .ins _ _, ⟨dx, vs, h, r⟩ => ⟨dx, vs, e.trans h, r⟩
  | .scr _, ⟨o, h⟩ => ⟨o, e.trans h⟩
  | .fdic _, ⟨o, ks, z, h, r⟩ => ⟨o, ks, z, e.trans h, r⟩
  | .exn _ _, ⟨d, h, q⟩ => ⟨d, h, e.trans q⟩
  | .xdc _ _, ⟨v, h, r⟩ => ⟨v, e.trans h, r⟩
  | .sst _, h => e.trans h
theorem Ob.some {G : Gt} {H : Hp} {a : Addr} : ∀ {o : O}, Ob G ρ H a o → ∃ u, H a = Option.some u
  | .lst _, ⟨_, h, _⟩ => ⟨_, h⟩
  | .tup _, ⟨_, h, _⟩ => ⟨_, h⟩
  | .dic _, ⟨_, h, _⟩ => ⟨_, h⟩
  | .ins _ _, ⟨_, _, h, _⟩ => ⟨_, h⟩
  | .scr _, ⟨_, h⟩ => ⟨_, h⟩
  | .fdic _, ⟨_, _, _, h, _⟩ => ⟨_, h⟩
  | .exn _ _, ⟨_, _, h⟩ => ⟨_, h⟩
  | .xdc _ _, ⟨_, h, _⟩ => ⟨_, h⟩
  | .sst _, h => ⟨_, h⟩
end
section
variable {G : Gt} {ρ ρ' : Rho} {μ : Mem} {H H' : Hp}
theorem Rel.at (R : Rel G ρ μ H) {l : Nat} {o : O} (h : μ[l]? = some o) : ∃ a, ρ.ad[l]? = some a ∧ Ob G ρ H a o := by
  obtain ⟨hl, _⟩ := List.getElem?_eq_some_iff.mp h
  have hl' : l < ρ.ad.length := by rw [R.len]; exact hl
  exact ⟨ρ.ad[l], List.getElem?_eq_getElem hl', R.obj l o _ h (List.getElem?_eq_getElem hl')⟩
theorem Rel.of (R : Rel G ρ μ H) {l : Nat} {a : Addr} (h : ρ.ad[l]? = some a) : ∃ o, μ[l]? = some o ∧ Ob G ρ H a o := by
  obtain ⟨hl, _⟩ := List.getElem?_eq_some_iff.mp h
  have hl' : l < μ.length := by rw [← R.len]; exact hl
  exact ⟨μ[l], List.getElem?_eq_getElem hl', R.obj l _ a (List.getElem?_eq_getElem hl') h⟩
/-- ours are tracked -/
theorem Rel.trk (R : Rel G ρ μ H) {l : Nat} {a p : Addr} (h : ρ.ad[l]? = some a) (hp : H p = none) : a ≠ p := by
  obtain ⟨o, _, ob⟩ := R.of h
  obtain ⟨u, e⟩ := ob.some
  exact ne_of_none e hp
/-- a heap that keeps ours -/
theorem Rel.keep (R : Rel G ρ μ H) (k : ∀ (l : Nat) (a : Addr), ρ.ad[l]? = some a → H' a = H a) : Rel G ρ μ H' := ⟨R.len, R.inj, fun l o a h e => (R.obj l o a h e).at (k l a e)⟩
/-- a new object -/
theorem Rel.new (R : Rel G ρ μ H) {p : Addr} {o : O} {u : HO} (hp : H p = none) (hu : ∀ ρ', Gr ρ ρ' → Ob G ρ' (upd H p u) p o) : Rel G (ρ.push p) (μ ++ [o]) (upd H p u) := by
  have ep : (ρ.push p).ad = ρ.ad ++ [p] := rfl
  have g := Gr.snoc ρ p
  refine ⟨by simp [Rho.push, R.len], fun i j a hi hj => ?_, fun l o' a hl ha => ?_⟩
  · have key : ∀ k : Nat, (ρ.push p).ad[k]? = some a → (k < ρ.ad.length ∧ ρ.ad[k]? = some a) ∨ (k = ρ.ad.length ∧ a = p) := fun k hk => by
      rw [ep] at hk
      rcases Nat.lt_trichotomy k ρ.ad.length with h | h | h
      · exact .inl ⟨h, by rw [List.getElem?_append_left h] at hk; exact hk⟩
      · subst h
        rw [List.getElem?_append_right (Nat.le_refl _)] at hk
        simp at hk
        exact .inr ⟨rfl, hk.symm⟩
      · rw [List.getElem?_append_right (Nat.le_of_lt h)] at hk
        have : (k - ρ.ad.length) ≠ 0 := by omega
        cases hq : k - ρ.ad.length with
        | zero => omega
        | succ n => rw [hq] at hk; simp at hk
    rcases key i hi with ⟨h1, e1⟩ | ⟨h1, e1⟩
    · rcases key j hj with ⟨h2, e2⟩ | ⟨h2, e2⟩
      · exact R.inj i j a e1 e2
      · exact absurd e2 (R.trk e1 hp)
    · rcases key j hj with ⟨h2, e2⟩ | ⟨h2, e2⟩
      · exact absurd e1 (R.trk e2 hp)
      · rw [h1, h2]
  · rw [ep] at ha
    rcases Nat.lt_trichotomy l ρ.ad.length with h | h | h
    · rw [List.getElem?_append_left h] at ha
      rw [List.getElem?_append_left (by rw [← R.len]; exact h)] at hl
      exact ((R.obj l o' a hl ha).at (upd_ne (R.trk ha hp))).mono g
    · rw [h, List.getElem?_append_right (Nat.le_refl _)] at ha
      rw [h, R.len, List.getElem?_append_right (Nat.le_refl _)] at hl
      simp at ha hl
      subst ha hl
      exact hu _ g
    · obtain ⟨h3, _⟩ := List.getElem?_eq_some_iff.mp ha
      simp at h3
      omega
/-- an object that stands already becomes ours -/
theorem Rel.adopt (R : Rel G ρ μ H) {p : Addr} {o : O} (hp : ∀ l : Nat, ρ.ad[l]? ≠ some p) (hu : Ob G (ρ.push p) H p o) : Rel G (ρ.push p) (μ ++ [o]) H := by
  have g := Gr.snoc ρ p
  have key : ∀ (k : Nat) (a : Addr), (ρ.push p).ad[k]? = some a → (k < ρ.ad.length ∧ ρ.ad[k]? = some a) ∨ (k = ρ.ad.length ∧ a = p) := fun k a hk => by
    have hk : (ρ.ad ++ [p])[k]? = some a := hk
    rcases Nat.lt_or_ge k ρ.ad.length with h | h
    · exact .inl ⟨h, by rw [List.getElem?_append_left h] at hk; exact hk⟩
    · rw [List.getElem?_append_right h] at hk
      cases hq : k - ρ.ad.length with
      | zero => rw [hq] at hk; simp at hk; exact .inr ⟨by omega, hk.symm⟩
      | succ n => rw [hq] at hk; simp at hk
  refine ⟨by simp [Rho.push, R.len], fun i j a hi hj => ?_, fun l o' a hl ha => ?_⟩
  · rcases key i a hi with ⟨h1, e1⟩ | ⟨h1, e1⟩
    · rcases key j a hj with ⟨h2, e2⟩ | ⟨h2, e2⟩
      · exact R.inj i j a e1 e2
      · exact absurd (e2 ▸ e1) (hp i)
    · rcases key j a hj with ⟨h2, e2⟩ | ⟨h2, e2⟩
      · exact absurd (e1 ▸ e2) (hp j)
      · rw [h1, h2]
  · rcases key l a ha with ⟨h1, e1⟩ | ⟨h1, e1⟩
    · rw [List.getElem?_append_left (by rw [← R.len]; exact h1)] at hl
      exact (R.obj l o' a hl e1).mono g
    · rw [h1, R.len, List.getElem?_append_right (Nat.le_refl _)] at hl
      simp at hl
      subst hl e1
      exact hu
/-- an object of ours is written -/
theorem Rel.write (R : Rel G ρ μ H) {l : Nat} {a : Addr} {o : O} {u : HO} (hl : ρ.ad[l]? = some a) (hu : Ob G ρ (upd H a u) a o) : Rel G ρ (μ.set l o) (upd H a u) := by
  refine ⟨by simp [R.len], R.inj, fun k o' b hk hb => ?_⟩
  by_cases e : k = l
  · subst e
    rw [hl] at hb
    cases hb
    have hk' : k < μ.length := by rw [← R.len]; exact (List.getElem?_eq_some_iff.mp hl).1
    rw [List.getElem?_set_self hk'] at hk
    cases hk
    exact hu
  · rw [List.getElem?_set_ne (Ne.symm e)] at hk
    have ne : b ≠ a := fun z => e (R.inj k l a (z ▸ hb) hl)
    exact (R.obj k o' b hk hb).at (upd_ne ne)
end

/-! ### the readings of denotations -/
noncomputable def Post (G : Gt) (ρ : Rho) (Q : VK) (w : W) (μ : Mem) : Prop := ∀ ρ' H' v, Gr ρ ρ' → Rel G ρ' μ H' → RV ρ' w v → Q v H'
noncomputable def PostT (G : Gt) (ρ : Rho) (Q : Bool → Hp → Prop) (b : Bool) (μ : Mem) : Prop := ∀ ρ' H', Gr ρ ρ' → Rel G ρ' μ H' → Q b H'
noncomputable def PostA (G : Gt) (ρ : Rho) (Q : List V → Hp → Prop) (ws : List W) (μ : Mem) : Prop := ∀ ρ' H' vs, Gr ρ ρ' → Rel G ρ' μ H' → RVs ρ' ws vs → Q vs H'
/-- the field's name of an exception of our class c -/
noncomputable def PostX (G : Gt) (fn : Nat → Str) (ρ : Rho) (EX : XK) (c : Nat) (w : W) (μ : Mem) : Prop := ∀ ρ' H' v d, Gr ρ ρ' → Rel G ρ' μ H' → RV ρ' w v → H' d = some (.xd [(fn c, v)]) → (∀ l : Nat, ρ'.ad[l]? ≠ some d) → EX (.ref (G.ct c)) (some d) H'
noncomputable def PostS (G : Gt) (ρ : Rho) (D : Ends) (f : Fl) (μ : Mem) : Prop := ∀ ρ' H', Gr ρ ρ' → Rel G ρ' μ H' → match f with
  | .nx σ => ∀ τ, RS ρ' σ τ → D.nx τ H'
  | .bk σ => ∀ τ, RS ρ' σ τ → D.bk τ H'
  | .ct σ => ∀ τ, RS ρ' σ τ → D.ct τ H'
  | .rt w => ∀ v, RV ρ' w v → D.rt v H'
section
variable (G : Gt) (fn : Nat → Str) (EX : XK)
noncomputable def tE (f : EM) : TE := fun τ H Q => ∃ ρ σ μ, Rel G ρ μ H ∧ RS ρ σ τ ∧ wpR (f σ μ) (Post G ρ Q) (PostX G fn ρ EX)
noncomputable def tT (f : TM) : TT := fun τ H Q => ∃ ρ σ μ, Rel G ρ μ H ∧ RS ρ σ τ ∧ wpR (f σ μ) (PostT G ρ Q) (PostX G fn ρ EX)
noncomputable def tA (f : AM) : TA := fun τ H Q => ∃ ρ σ μ, Rel G ρ μ H ∧ RS ρ σ τ ∧ wpR (f σ μ) (PostA G ρ Q) (PostX G fn ρ EX)
noncomputable def tS (f : SM) : TS := fun D τ H => ∃ ρ σ μ, Rel G ρ μ H ∧ RS ρ σ τ ∧ wpR (f σ μ) (PostS G ρ D) (PostX G fn ρ EX)
end
section
variable {G : Gt} {fn : Nat → Str} {EX : XK} {ρ ρ1 : Rho}
theorem Post.mono {Q : VK} {w : W} {μ : Mem} (g : Gr ρ ρ1) (h : Post G ρ Q w μ) : Post G ρ1 Q w μ := fun ρ' H' v g' => h ρ' H' v (g.trans g')
theorem PostT.mono {Q : Bool → Hp → Prop} {w : Bool} {μ : Mem} (g : Gr ρ ρ1) (h : PostT G ρ Q w μ) : PostT G ρ1 Q w μ := fun ρ' H' g' => h ρ' H' (g.trans g')
theorem PostA.mono {Q : List V → Hp → Prop} {w : List W} {μ : Mem} (g : Gr ρ ρ1) (h : PostA G ρ Q w μ) : PostA G ρ1 Q w μ := fun ρ' H' v g' => h ρ' H' v (g.trans g')
theorem PostX.mono {c : Nat} {w : W} {μ : Mem} (g : Gr ρ ρ1) (h : PostX G fn ρ EX c w μ) : PostX G fn ρ1 EX c w μ := fun ρ' H' v d g' => h ρ' H' v d (g.trans g')
theorem PostS.mono {D : Ends} {f : Fl} {μ : Mem} (g : Gr ρ ρ1) (h : PostS G ρ D f μ) : PostS G ρ1 D f μ := fun ρ' H' g' => h ρ' H' (g.trans g')
/-- an expression first, then the rest -/
theorem Zc4 {α : Type} {a : EM} {k : W → Mem → Rs α} {P : α → Mem → Prop} {σ : En} {μ : Mem} {τ : L2.St} {H : Hp} (R : Rel G ρ μ H) (S : RS ρ σ τ) (h : wpR ((a σ μ).bind k) P (PostX G fn ρ EX)) {Q : VK}
    (q : ∀ ρ1 w μ1 v H1, Gr ρ ρ1 → Rel G ρ1 μ1 H1 → RS ρ1 σ τ → RV ρ1 w v → wpR (k w μ1) P (PostX G fn ρ EX) → Q v H1) : tE G fn EX a τ H Q :=
  ⟨ρ, σ, μ, R, S, Zbv (wpR_bind.mp h) (fun w μ1 hk ρ1 H1 v g R1 r => q ρ1 w μ1 v H1 g R1 (RS.mono g S) r hk) fun _ _ _ x => x⟩
theorem tT_then {α : Type} {a : TM} {k : Bool → Mem → Rs α} {P : α → Mem → Prop} {σ : En} {μ : Mem} {τ : L2.St} {H : Hp} (R : Rel G ρ μ H) (S : RS ρ σ τ) (h : wpR ((a σ μ).bind k) P (PostX G fn ρ EX)) {Q : Bool → Hp → Prop}
    (q : ∀ ρ1 w μ1 H1, Gr ρ ρ1 → Rel G ρ1 μ1 H1 → RS ρ1 σ τ → wpR (k w μ1) P (PostX G fn ρ EX) → Q w H1) : tT G fn EX a τ H Q :=
  ⟨ρ, σ, μ, R, S, Zbv (wpR_bind.mp h) (fun w μ1 hk ρ1 H1 g R1 => q ρ1 w μ1 H1 g R1 (RS.mono g S) hk) fun _ _ _ x => x⟩
theorem Zkk {α : Type} {a : AM} {k : List W → Mem → Rs α} {P : α → Mem → Prop} {σ : En} {μ : Mem} {τ : L2.St} {H : Hp} (R : Rel G ρ μ H) (S : RS ρ σ τ) (h : wpR ((a σ μ).bind k) P (PostX G fn ρ EX)) {Q : List V → Hp → Prop}
    (q : ∀ ρ1 w μ1 v H1, Gr ρ ρ1 → Rel G ρ1 μ1 H1 → RS ρ1 σ τ → RVs ρ1 w v → wpR (k w μ1) P (PostX G fn ρ EX) → Q v H1) : tA G fn EX a τ H Q :=
  ⟨ρ, σ, μ, R, S, Zbv (wpR_bind.mp h) (fun w μ1 hk ρ1 H1 v g R1 r => q ρ1 w μ1 v H1 g R1 (RS.mono g S) r hk) fun _ _ _ x => x⟩
end
/-- a reading that asks more -/
theorem PE.imp {X : Cx} {e : Expr} {t t' : TE} (h : PE X e t) (i : ∀ τ H Q, t' τ H Q → t τ H Q) : PE X e t' := ⟨fun pins s σ H Q I q => h.run pins s σ H Q I (i σ H Q q)⟩
theorem PT.imp {X : Cx} {e : Expr} {t t' : TT} (h : PT X e t) (i : ∀ τ H Q, t' τ H Q → t τ H Q) : PT X e t' := ⟨fun pins s σ H Q I q => h.run pins s σ H Q I (i σ H Q q)⟩
theorem PA.imp {X : Cx} {e : List Expr} {t t' : TA} (h : PA X e t) (i : ∀ τ H Q, t' τ H Q → t τ H Q) : PA X e t' := ⟨fun pos pins s σ H Q I q => h.run pos pins s σ H Q I (i σ H Q q)⟩
theorem PS.imp {X : Cx} {e : Stmt} {t t' : TS} (h : PS X e t) (i : ∀ D τ H, t' D τ H → t D τ H) : PS X e t' := ⟨fun pins s σ H D I q => h.run pins s σ H D I (i D σ H q)⟩
theorem PSs.imp {X : Cx} {e : List Stmt} {t t' : TS} (h : PSs X e t) (i : ∀ D τ H, t' D τ H → t D τ H) : PSs X e t' := ⟨fun pins s σ H D I q => h.run pins s σ H D I (i D σ H q)⟩
end Vs
namespace Vs
open PySem L2

/-! ### reading the store -/
noncomputable def getL (μ : Mem) : W → Option (List W)
  | .loc l => match μ[l]? with
    | some (.lst xs) => some xs
    | _ => none
  | _ => none
noncomputable def getT (μ : Mem) : W → Option (List W)
  | .loc l => match μ[l]? with
    | some (.tup xs) => some xs
    | _ => none
  | _ => none
noncomputable def getD (μ : Mem) : W → Option (List (Key × W))
  | .loc l => match μ[l]? with
    | some (.dic xs) => some xs
    | _ => none
  | _ => none
/-- a dict that is read, a locked one too -/
noncomputable def getE (μ : Mem) : W → Option (List (Key × W))
  | .loc l => match μ[l]? with
    | some (.dic xs) => some xs
    | some (.fdic xs) => some xs
    | _ => none
  | _ => none
noncomputable def getI (μ : Mem) : W → Option (Nat × List (Str × W))
  | .loc l => match μ[l]? with
    | some (.ins c xs) => some (c, xs)
    | _ => none
  | _ => none
/-- a list that is read, the script's too -/
noncomputable def getR (μ : Mem) : W → Option (List W)
  | .loc l => match μ[l]? with
    | some (.lst xs) => some xs
    | some (.scr ns) => some (ns.map W.int)
    | _ => none
  | _ => none
section
variable {G : Gt} {ρ : Rho} {μ : Mem} {H : Hp} {w : W} {v : V}
theorem Zkv (R : Rel G ρ μ H) (r : RV ρ w v) {xs : List W} (h : getL μ w = some xs) : ∃ l a vs, w = .loc l ∧ v = .ref a ∧ ρ.ad[l]? = some a ∧ μ[l]? = some (.lst xs) ∧ H a = some (.lst vs) ∧ RVs ρ xs vs := by
  cases w with
  | loc l =>
    obtain ⟨a, ea, rfl⟩ := r
    simp only [getL] at h
    split at h
    · rename_i ys e
      cases h
      obtain ⟨vs, h1, h2⟩ := R.obj l _ a e ea
      exact ⟨l, a, vs, rfl, rfl, ea, e, h1, h2⟩
    · cases h
  | _ => cases h
theorem getT_at (R : Rel G ρ μ H) (r : RV ρ w v) {xs : List W} (h : getT μ w = some xs) : ∃ l a vs, w = .loc l ∧ v = .ref a ∧ ρ.ad[l]? = some a ∧ μ[l]? = some (.tup xs) ∧ H a = some (.tup vs) ∧ RVs ρ xs vs := by
  cases w with
  | loc l =>
    obtain ⟨a, ea, rfl⟩ := r
    simp only [getT] at h
    split at h
    · rename_i ys e
      cases h
      obtain ⟨vs, h1, h2⟩ := R.obj l _ a e ea
      exact ⟨l, a, vs, rfl, rfl, ea, e, h1, h2⟩
    · cases h
  | _ => cases h
theorem Zky (R : Rel G ρ μ H) (r : RV ρ w v) {xs : List (Key × W)} (h : getD μ w = some xs) : ∃ l a vs, w = .loc l ∧ v = .ref a ∧ ρ.ad[l]? = some a ∧ μ[l]? = some (.dic xs) ∧ H a = some (.dK vs) ∧ RK ρ xs vs := by
  cases w with
  | loc l =>
    obtain ⟨a, ea, rfl⟩ := r
    simp only [getD] at h
    split at h
    · rename_i ys e
      cases h
      obtain ⟨vs, h1, h2⟩ := R.obj l _ a e ea
      exact ⟨l, a, vs, rfl, rfl, ea, e, h1, h2⟩
    · cases h
  | _ => cases h
theorem getE_at (R : Rel G ρ μ H) (r : RV ρ w v) {xs : List (Key × W)} (h : getE μ w = some xs) : ∃ l a vs, w = .loc l ∧ v = .ref a ∧ ρ.ad[l]? = some a ∧ Rd H a (.dK vs) ∧ RK ρ xs vs := by
  cases w with
  | loc l =>
    obtain ⟨a, ea, rfl⟩ := r
    simp only [getE] at h
    split at h
    · rename_i ys e
      cases h
      obtain ⟨vs, h1, h2⟩ := R.obj l _ a e ea
      exact ⟨l, a, vs, rfl, rfl, ea, .inl h1, h2⟩
    · rename_i ys e
      cases h
      obtain ⟨o, vs, _, h1, h2⟩ := R.obj l _ a e ea
      exact ⟨l, a, vs, rfl, rfl, ea, .inr ⟨o, h1⟩, h2⟩
    · cases h
  | _ => cases h
theorem getI_at (R : Rel G ρ μ H) (r : RV ρ w v) {c : Nat} {xs : List (Str × W)} (h : getI μ w = some (c, xs)) : ∃ l a dx vs, w = .loc l ∧ v = .ref a ∧ ρ.ad[l]? = some a ∧ μ[l]? = some (.ins c xs) ∧ H a = some (.ins (G.ct c) dx vs) ∧ RK ρ xs vs := by
  cases w with
  | loc l =>
    obtain ⟨a, ea, rfl⟩ := r
    simp only [getI] at h
    split at h
    · rename_i c' ys e
      cases h
      obtain ⟨dx, vs, h1, h2⟩ := R.obj l _ a e ea
      exact ⟨l, a, dx, vs, rfl, rfl, ea, e, h1, h2⟩
    · cases h
  | _ => cases h
theorem ints_rv (ρ : Rho) : ∀ ns : List Int, RVs ρ (ns.map W.int) (ns.map V.int)
  | [] => .nil
  | n :: ns => .cons rfl (ints_rv ρ ns)
theorem Zgv (R : Rel G ρ μ H) (r : RV ρ w v) {xs : List W} (h : getR μ w = some xs) : ∃ l a vs, w = .loc l ∧ v = .ref a ∧ ρ.ad[l]? = some a ∧ SqL G.K H a vs ∧ RVs ρ xs vs := by
  cases w with
  | loc l =>
    obtain ⟨a, ea, rfl⟩ := r
    simp only [getR] at h
    split at h
    · rename_i ys e
      cases h
      obtain ⟨vs, h1, h2⟩ := R.obj l _ a e ea
      exact ⟨l, a, vs, rfl, rfl, ea, .of h1, h2⟩
    · rename_i ns e
      cases h
      obtain ⟨o, h1⟩ := R.obj l _ a e ea
      exact ⟨l, a, _, rfl, rfl, ea, .inl (.inr ⟨o, h1⟩), ints_rv ρ ns⟩
    · cases h
  | _ => cases h
theorem Zih (R : Rel G ρ μ H) (r : RV ρ w v) {xs : List W} (h : getT μ w = some xs) : ∃ l a vs, w = .loc l ∧ v = .ref a ∧ ρ.ad[l]? = some a ∧ SqT G.K H a vs ∧ RVs ρ xs vs := by
  obtain ⟨l, a, vs, h1, h2, h3, h4, h5, h6⟩ := getT_at R r h
  exact ⟨l, a, vs, h1, h2, h3, .of h5, h6⟩
end
theorem Zeu {ρ : Rho} {ws : List W} {vs : List V} (h : RVs ρ ws vs) : ws.length = vs.length := Paired.length h
theorem Zkt {ρ : Rho} : ∀ {ws : List W} {vs : List V}, RVs ρ ws vs → ∀ {i : Nat} {w : W}, ws[i]? = some w → ∃ v, vs[i]? = some v ∧ RV ρ w v
  | _, _, .nil, i, w, e => by simp at e
  | _, _, .cons r t, 0, w, e => by simp at e; subst e; exact ⟨_, rfl, r⟩
  | _, _, .cons r t, i + 1, w, e => by simpa using Zkt t (i := i) (w := w) (by simpa using e)
theorem Zm8 {ρ : Rho} : ∀ {a b : List W} {c d : List V}, RVs ρ a c → RVs ρ b d → RVs ρ (a ++ b) (c ++ d)
  | _, _, _, _, .nil, h => h
  | _, _, _, _, .cons r t, h => .cons r (Zm8 t h)
theorem rvs_take {ρ : Rho} : ∀ {a : List W} {c : List V} (n : Nat), RVs ρ a c → RVs ρ (a.take n) (c.take n)
  | _, _, 0, _ => .nil
  | _, _, _ + 1, .nil => .nil
  | _, _, n + 1, .cons r t => .cons r (rvs_take n t)
theorem rvs_drop {ρ : Rho} : ∀ {a : List W} {c : List V} (n : Nat), RVs ρ a c → RVs ρ (a.drop n) (c.drop n)
  | _, _, 0, h => h
  | _, _, _ + 1, .nil => .nil
  | _, _, n + 1, .cons r t => rvs_drop n t
theorem rvs_set {ρ : Rho} {w : W} {v : V} (r : RV ρ w v) : ∀ {a : List W} {c : List V} (n : Nat), RVs ρ a c → RVs ρ (a.set n w) (c.set n v)
  | _, _, _, .nil => .nil
  | _, _, 0, .cons q t => .cons r t
  | _, _, n + 1, .cons q t => .cons q (rvs_set r n t)
theorem rs_get {ρ : Rho} : ∀ {σ : En} {τ : L2.St}, RS ρ σ τ → ∀ {i : Nat} {w : W}, σ[i]? = some (some w) → ∃ v, τ[i]? = some (some v) ∧ RV ρ w v
  | _, _, .nil, i, w, e => by simp at e
  | _, _, .cons (b := b) r t, 0, w, e => by
    simp at e
    subst e
    cases b with
    | some v => exact ⟨v, rfl, r⟩
    | none => exact r.elim
  | _, _, .cons r t, i + 1, w, e => by simpa using rs_get t (i := i) (w := w) (by simpa using e)
theorem Zhl {ρ : Rho} {w : Option W} {v : Option V} (r : RO ρ w v) : ∀ {σ : En} {τ : L2.St} (i : Nat), RS ρ σ τ → RS ρ (σ.set i w) (τ.set i v)
  | _, _, _, .nil => .nil
  | _, _, 0, .cons q t => .cons r t
  | _, _, n + 1, .cons q t => .cons q (Zhl r n t)

/-! ### primitive operations on values -/
noncomputable abbrev LIM : Nat := 100000
theorem Zkd {n : Nat} (h : n ≤ LIM) : n ≤ sizeLine := Nat.le_trans h (by decide)
theorem lim_lt {n : Nat} (h : n < LIM) : n < sizeLine := Nat.lt_of_lt_of_le h (by decide)
noncomputable abbrev P2 := W → W → Mem → Option (W × Mem)
noncomputable abbrev PN := List W → Mem → Option (W × Mem)
noncomputable def lift {α : Type} : Option (α × Mem) → Rs α
  | some (a, m) => .ok a m
  | none => .bad
noncomputable def OpS (G : Gt) (r : R2) (op : P2) : Prop := ∀ {ρ : Rho} {μ : Mem} {H : Hp} {x y w : W} {v u : V} {μ' : Mem} {Q : VK}, Rel G ρ μ H → RV ρ x v → RV ρ y u → op x y μ = some (w, μ') → Post G ρ Q w μ' → r v u H Q
noncomputable def CaS (G : Gt) (r : List V → Hp → VK → Prop) (op : PN) : Prop := ∀ {ρ : Rho} {μ : Mem} {H : Hp} {xs : List W} {w : W} {vs : List V} {μ' : Mem} {Q : VK}, Rel G ρ μ H → RVs ρ xs vs → op xs μ = some (w, μ') → Post G ρ Q w μ' → r vs H Q
noncomputable def por (f g : P2) : P2 := fun x y μ => match f x y μ with
  | some r => some r
  | none => g x y μ
noncomputable def porN (f g : PN) : PN := fun x μ => match f x μ with
  | some r => some r
  | none => g x μ
theorem OpS.or {G : Gt} {r r' : R2} {f g : P2} (h : OpS G r f) (h' : OpS G r' g) : OpS G (fun x y H Q => r x y H Q ∨ r' x y H Q) (por f g) := by
  intro ρ μ H x y w v u μ' Q R rx ry e q
  unfold por at e
  split at e
  · rename_i z ez
    cases e
    exact .inl (h R rx ry ez q)
  · exact .inr (h' R rx ry e q)
theorem CaS.or {G : Gt} {r r' : List V → Hp → VK → Prop} {f g : PN} (h : CaS G r f) (h' : CaS G r' g) : CaS G (fun x H Q => r x H Q ∨ r' x H Q) (porN f g) := by
  intro ρ μ H x w v μ' Q R rx e q
  unfold porN at e
  split at e
  · rename_i z ez
    cases e
    exact .inl (h R rx ez q)
  · exact .inr (h' R rx e q)
/-- ints -/
noncomputable def pI (C : Int → Int → Bool) (g : Int → Int → W) : P2 := fun x y μ => match x, y with
  | .int i, .int j => if C i j then some (g i j, μ) else none
  | _, _ => none
theorem pI_of {C : Int → Int → Bool} {g : Int → Int → W} {x y w : W} {μ μ' : Mem} (e : pI C g x y μ = some (w, μ')) : ∃ i j, x = .int i ∧ y = .int j ∧ C i j = true ∧ w = g i j ∧ μ' = μ := by
  unfold pI at e
  split at e
  · rename_i i j
    split at e
    · rename_i h
      cases e
      exact ⟨i, j, rfl, rfl, h, rfl, rfl⟩
    · cases e
  · cases e
theorem ops_I {G : Gt} {C : Int → Int → Bool} {D : Int → Int → Prop} {g : Int → Int → W} {k : Int → Int → V} (hc : ∀ i j, C i j = true → D i j) (hg : ∀ ρ i j, RV ρ (g i j) (k i j)) : OpS G (rI D k) (pI C g) := by
  intro ρ μ H x y w v u μ' Q R rx ry e q
  obtain ⟨i, j, rfl, rfl, h, rfl, rfl⟩ := pI_of e
  obtain rfl : v = .int i := rx
  obtain rfl : u = .int j := ry
  exact ⟨i, j, rfl, rfl, hc i j h, q ρ H _ (Gr.refl ρ) R (hg ρ i j)⟩
theorem ops_I0 {G : Gt} {g : Int → Int → W} {k : Int → Int → V} (hg : ∀ ρ i j, RV ρ (g i j) (k i j)) : OpS G (rI0 k) (pI (fun _ _ => true) g) := by
  intro ρ μ H x y w v u μ' Q R rx ry e q
  obtain ⟨i, j, rfl, rfl, h, rfl, rfl⟩ := pI_of e
  obtain rfl : v = .int i := rx
  obtain rfl : u = .int j := ry
  exact ⟨i, j, rfl, rfl, q ρ H _ (Gr.refl ρ) R (hg ρ i j)⟩
noncomputable def pSubI : P2 := pI (fun _ _ => true) fun i j => .int (i - j)
noncomputable def cMul (i j : Int) : Bool := decide ((-(2 ^ 64) < i ∧ i < 2 ^ 64) ∨ (-(2 ^ 64) < j ∧ j < 2 ^ 64))
noncomputable def Zls : P2 := pI cMul fun i j => .int (i * j)
noncomputable def cDiv (i j : Int) : Bool := decide (0 < j ∧ j.natAbs.log2 < 9000)
noncomputable def pDivI : P2 := pI cDiv fun i j => .int (i / j)
noncomputable def Znf : P2 := pI (fun _ j => decide (0 < j)) fun i j => .int (i % j)
noncomputable def CPowV (i j : Int) : Prop := 0 ≤ j ∧ ((j ≤ 1000000 ∧ i.natAbs < 2 ^ 64) ∨ (Builtin.Int.intBits i : Int) * j ≤ 2 ^ 27)
instance (i j : Int) : Decidable (CPowV i j) := inferInstanceAs (Decidable (_ ∧ _))
noncomputable def cPow (i j : Int) : Bool := decide (CPowV i j)
theorem Znj {X : Cx} : OpR X (binaryOp .Pow) (rI CPowV fun i j => .int (i ^ j.toNat)) := opI fun _ _ _ _ _ _ _ hc q => PyProof.Rows.pow_int hc.1 (by rcases hc.2 with h | h; exact PyProof.Rows.bits_mul_le h.2 hc.1 h.1; exact h) q
noncomputable def pPowI : P2 := pI cPow fun i j => .int (i ^ j.toNat)
theorem ops_sub {G : Gt} : OpS G (rI0 fun i j => .int (i - j)) pSubI := by
  unfold pSubI
  exact ops_I0 (by intros; rfl)
theorem Zh3 {G : Gt} : OpS G (rI CMul fun i j => .int (i * j)) Zls := by
  unfold Zls
  exact ops_I (fun _ _ h => of_decide_eq_true h) (by intros; rfl)
theorem ops_div {G : Gt} : OpS G (rI CDivW fun i j => .int (i / j)) pDivI := by
  unfold pDivI
  exact ops_I (fun _ _ h => of_decide_eq_true h) (by intros; rfl)
theorem Zjb {G : Gt} : OpS G (rI (fun _ j => 0 < j) fun i j => .int (i % j)) Znf := by
  unfold Znf
  exact ops_I (fun _ _ h => of_decide_eq_true h) (by intros; rfl)
theorem Zm5 {G : Gt} : OpS G (rI CPowV fun i j => .int (i ^ j.toNat)) pPowI := by
  unfold pPowI
  exact ops_I (fun _ _ h => of_decide_eq_true h) (by intros; rfl)
/-- + -/
noncomputable def pAddI : P2 := pI (fun _ _ => true) fun i j => .int (i + j)
noncomputable def pAddS : P2 := fun x y μ => match x, y with
  | .str a, .str b => if a.length + b.length ≤ LIM then some (.str (a ++ b), μ) else none
  | _, _ => none
noncomputable def pAddL : P2 := fun x y μ => match getL μ x, getL μ y with
  | some xs, some ys => if xs.length + ys.length ≤ LIM then some (.loc μ.length, μ ++ [.lst (xs ++ ys)]) else none
  | _, _ => none
noncomputable def pAddT : P2 := fun x y μ => match getT μ x, getT μ y with
  | some xs, some ys => if xs.length + ys.length ≤ LIM then (if xs = [] then some (y, μ) else if ys = [] then some (x, μ) else some (.loc μ.length, μ ++ [.tup (xs ++ ys)])) else none
  | _, _ => none
theorem ops_addI {G : Gt} : OpS G (rI0 fun i j => .int (i + j)) pAddI := by
  unfold pAddI
  exact ops_I0 (by intros; rfl)
theorem ops_addS {G : Gt} : OpS G (fun x y H Q => ∃ i j, x = .str i ∧ y = .str j ∧ i.length + j.length ≤ sizeLine ∧ Q (.str (i ++ j)) H) pAddS := by
  intro ρ μ H x y w v u μ' Q R rx ry e q
  unfold pAddS at e
  split at e
  · rename_i a b
    split at e
    · rename_i h
      cases e
      exact ⟨a, b, rx, ry, Zkd h, q ρ H _ (Gr.refl ρ) R rfl⟩
    · cases e
  · cases e
/-- a new object's address -/
theorem Zie {ρ : Rho} {μ : Mem} {G : Gt} {H : Hp} (R : Rel G ρ μ H) (p : Addr) : RV (ρ.push p) (.loc μ.length) (.ref p) := ⟨p, by rw [← R.len]; simp [Rho.push], rfl⟩
theorem Zj0 {G : Gt} {ρ : Rho} {μ : Mem} {H : Hp} {Q : VK} {xs : List W} {vs : List V} (R : Rel G ρ μ H) (r : RVs ρ xs vs) (q : Post G ρ Q (.loc μ.length) (μ ++ [.lst xs])) {p : Addr} (hp : H p = none) : Q (.ref p) (upd H p (.lst vs)) :=
  q _ _ _ (Gr.snoc ρ p) (R.new hp fun ρ' g => ⟨vs, upd_same, RVs.mono g r⟩) (Zie R p)
theorem Zl5 {G : Gt} {ρ : Rho} {μ : Mem} {H : Hp} {Q : VK} {xs : List W} {vs : List V} (R : Rel G ρ μ H) (r : RVs ρ xs vs) (q : Post G ρ Q (.loc μ.length) (μ ++ [.tup xs])) {p : Addr} (hp : H p = none) : Q (.ref p) (upd H p (.tup vs)) :=
  q _ _ _ (Gr.snoc ρ p) (R.new hp fun ρ' g => ⟨vs, upd_same, RVs.mono g r⟩) (Zie R p)
theorem post_dic {G : Gt} {ρ : Rho} {μ : Mem} {H : Hp} {Q : VK} {xs : List (Key × W)} {vs : List (Key × V)} (R : Rel G ρ μ H) (r : RK ρ xs vs) (q : Post G ρ Q (.loc μ.length) (μ ++ [.dic xs])) {p : Addr} (hp : H p = none) : Q (.ref p) (upd H p (.dK vs)) :=
  q _ _ _ (Gr.snoc ρ p) (R.new hp fun ρ' g => ⟨vs, upd_same, RK.mono g r⟩) (Zie R p)
theorem Zjl {G : Gt} {ρ : Rho} {μ : Mem} {H : Hp} {Q : VK} {w : W} {v : V} (R : Rel G ρ μ H) (r : RV ρ w v) (q : Post G ρ Q w μ) : Q v H := q ρ H v (Gr.refl ρ) R r
theorem ops_addL {G : Gt} : OpS G rCat pAddL := by
  intro ρ μ H x y w v u μ' Q R rx ry e q
  unfold pAddL at e
  split at e
  · rename_i xs ys e1 e2
    split at e
    · rename_i h
      cases e
      obtain ⟨l, a, vs, _, rfl, _, _, h1, r1⟩ := Zkv R rx e1
      obtain ⟨l', b, us, _, rfl, _, _, h2, r2⟩ := Zkv R ry e2
      exact ⟨a, b, vs, us, rfl, rfl, h1, h2, by rw [← Zeu r1, ← Zeu r2]; exact Zkd h, fun p hp => Zj0 R (Zm8 r1 r2) q hp⟩
    · cases e
  · cases e
theorem Zmu {ρ : Rho} {xs : List W} {vs : List V} (r : RVs ρ xs vs) : xs = [] ↔ vs = [] := by
  cases r with
  | nil => simp
  | cons a b => simp
theorem ops_addT {G : Gt} : OpS G (rCatA G.K) pAddT := by
  intro ρ μ H x y w v u μ' Q R rx ry e q
  unfold pAddT at e
  split at e
  · rename_i xs ys e1 e2
    obtain ⟨l, a, vs, _, rfl, _, h1, r1⟩ := Zih R rx e1
    obtain ⟨l', b, us, _, rfl, _, h2, r2⟩ := Zih R ry e2
    split at e
    · rename_i h
      refine ⟨a, b, vs, us, rfl, rfl, h1, h2, by rw [← Zeu r1, ← Zeu r2]; exact Zkd h, fun n => ?_, fun n m => ?_, fun n m p hp => ?_⟩
      · rw [if_pos ((Zmu r1).mpr n)] at e
        cases e
        exact Zjl R ry q
      · rw [if_neg (fun z => n ((Zmu r1).mp z)), if_pos ((Zmu r2).mpr m)] at e
        cases e
        exact Zjl R rx q
      · rw [if_neg (fun z => n ((Zmu r1).mp z)), if_neg (fun z => m ((Zmu r2).mp z))] at e
        cases e
        exact Zl5 R (Zm8 r1 r2) q hp
    · cases e
  · cases e
noncomputable def pAdd : P2 := por pAddI (por pAddS (por pAddL pAddT))
end Vs
namespace Vs
open PySem L2

/-! ### denotations of expressions -/
noncomputable def Zah (i : Nat) : EM := fun σ μ => match σ[i]? with
  | some (some w) => .ok w μ
  | _ => .bad
noncomputable def e_c (w : W) : EM := fun _ μ => .ok w μ
noncomputable def Za2 (op : P2) (a b : EM) : EM := fun σ μ => (a σ μ).bind fun x μ1 => (b σ μ1).bind fun y μ2 => lift (op x y μ2)
noncomputable def a_nil : AM := fun _ μ => .ok [] μ
noncomputable def Zac (a : EM) (r : AM) : AM := fun σ μ => (a σ μ).bind fun x μ1 => (r σ μ1).bind fun xs μ2 => .ok (x :: xs) μ2
noncomputable def Zgh (a : AM) : EM := fun σ μ => (a σ μ).bind fun xs μ1 => if xs.length ≤ LIM then .ok (.loc μ1.length) (μ1 ++ [.tup xs]) else .bad
noncomputable def Ze7 (a : AM) : EM := fun σ μ => (a σ μ).bind fun xs μ1 => if xs.length ≤ LIM then .ok (.loc μ1.length) (μ1 ++ [.lst xs]) else .bad
noncomputable def e_cb (op : PN) (a : AM) : EM := fun σ μ => (a σ μ).bind fun xs μ1 => lift (op xs μ1)
noncomputable def Zgn (a : EM) : TM := fun σ μ => (a σ μ).bind fun x μ1 => match x with
  | .bl b => .ok b μ1
  | _ => .bad
/-- a value's truth -/
noncomputable def tru (μ : Mem) : W → Option Bool
  | .non => some false
  | .bl b => some b
  | .int i => some (i != 0)
  | .str x => if x.length ≤ LIM then some ((x.length : Int) != 0) else none
  | .loc l => match μ[l]? with
    | some (.lst xs) => some (!xs.isEmpty)
    | some (.tup xs) => some (!xs.isEmpty)
    | some (.dic xs) => some (!xs.isEmpty)
    | _ => none
noncomputable def Zhz (a : EM) : TM := fun σ μ => (a σ μ).bind fun x μ1 => match tru μ1 x with
  | some b => .ok b μ1
  | none => .bad
noncomputable def t_or (a b : TM) : TM := fun σ μ => (a σ μ).bind fun c μ1 => if c = true then .ok true μ1 else b σ μ1
noncomputable def Zib (a : TM) : TM := fun σ μ => (a σ μ).bind fun c μ1 => .ok (!c) μ1
noncomputable def Ziw (a b : EM) : EM := fun σ μ => (a σ μ).bind fun x μ1 => match x with
  | .bl true => b σ μ1
  | .bl false => .ok (.bl false) μ1
  | _ => .bad
noncomputable def e_or (a b : EM) : EM := fun σ μ => (a σ μ).bind fun x μ1 => match x with
  | .bl true => .ok (.bl true) μ1
  | .bl false => b σ μ1
  | _ => .bad
noncomputable def e_not (a : EM) : EM := fun σ μ => (a σ μ).bind fun x μ1 => match x with
  | .bl b => .ok (.bl (!b)) μ1
  | _ => .bad
noncomputable def e_call (f : Fn) (a : AM) : EM := fun σ μ => (a σ μ).bind fun xs μ1 => f xs μ1

section
variable {G : Gt} {fn : Nat → Str} {EX : XK} {a b : EM} {r : AM} {t u : TM} {τ : L2.St} {H : Hp}
theorem i_var {i : Nat} {Q : VK} (h : tE G fn EX (Zah i) τ H Q) : tVar i τ H Q := by
  obtain ⟨ρ, σ, μ, R, S, h⟩ := h
  unfold Zah at h
  split at h
  · rename_i w e
    obtain ⟨v, e1, r1⟩ := rs_get S e
    exact ⟨v, e1, h ρ H v (Gr.refl ρ) R r1⟩
  · exact h.elim
theorem i_c {w : W} {v : V} {Q : VK} (hv : ∀ ρ, RV ρ w v) (h : tE G fn EX (e_c w) τ H Q) : tC v τ H Q := by
  obtain ⟨ρ, σ, μ, R, S, h⟩ := h
  exact h ρ H v (Gr.refl ρ) R (hv ρ)
theorem Zmr {α : Type} {o : Option (α × Mem)} {P : α → Mem → Prop} {E : Nat → W → Mem → Prop} (h : wpR (lift o) P E) : ∃ a m, o = some (a, m) ∧ P a m := by
  cases o with
  | none => exact h.elim
  | some p => exact ⟨p.1, p.2, rfl, h⟩
theorem i_bin {op : P2} {rr : R2} {Q : VK} (o : OpS G rr op) (h : tE G fn EX (Za2 op a b) τ H Q) : tOp rr (tE G fn EX a) (tE G fn EX b) τ H Q := by
  obtain ⟨ρ, σ, μ, R, S, h⟩ := h
  refine Zc4 R S h fun ρ1 x μ1 v H1 g1 R1 S1 rx h => ?_
  refine Zc4 R1 S1 (Zbv h (fun _ _ z => z) fun _ _ _ z => PostX.mono g1 z) fun ρ2 y μ2 u H2 g2 R2 S2 ry h => ?_
  obtain ⟨w, m, e, q⟩ := Zmr h
  exact o R2 (RV.mono g2 rx) ry e (Post.mono (g1.trans g2) q)
theorem i_nil {Q : List V → Hp → Prop} (h : tA G fn EX a_nil τ H Q) : tNil τ H Q := by
  obtain ⟨ρ, σ, μ, R, S, h⟩ := h
  exact h ρ H [] (Gr.refl ρ) R .nil
theorem i_cons {Q : List V → Hp → Prop} (h : tA G fn EX (Zac a r) τ H Q) : tCons (tE G fn EX a) (tA G fn EX r) τ H Q := by
  obtain ⟨ρ, σ, μ, R, S, h⟩ := h
  refine Zc4 R S h fun ρ1 x μ1 v H1 g1 R1 S1 rx h => ?_
  refine Zkk R1 S1 (Zbv h (fun _ _ z => z) fun _ _ _ z => PostX.mono g1 z) fun ρ2 y μ2 u H2 g2 R2 S2 ry h => ?_
  exact h ρ2 H2 (v :: u) (g1.trans g2) R2 (.cons (RV.mono g2 rx) ry)
theorem i_tup {Q : VK} (h : tE G fn EX (Zgh r) τ H Q) : tTup (tA G fn EX r) τ H Q := by
  obtain ⟨ρ, σ, μ, R, S, h⟩ := h
  refine Zkk R S h fun ρ1 x μ1 v H1 g1 R1 S1 rx h => ?_
  split at h
  · rename_i hl
    exact ⟨by rw [← Zeu rx]; exact Zkd hl, fun p hp => Zl5 R1 rx (Post.mono g1 h) hp⟩
  · exact h.elim
theorem i_lst {Q : VK} (h : tE G fn EX (Ze7 r) τ H Q) : tLst (tA G fn EX r) τ H Q := by
  obtain ⟨ρ, σ, μ, R, S, h⟩ := h
  refine Zkk R S h fun ρ1 x μ1 v H1 g1 R1 S1 rx h => ?_
  split at h
  · rename_i hl
    exact ⟨by rw [← Zeu rx]; exact Zkd hl, fun p hp => Zj0 R1 rx (Post.mono g1 h) hp⟩
  · exact h.elim
theorem i_cb {op : PN} {rr : List V → Hp → VK → Prop} {Q : VK} (o : CaS G rr op) (h : tE G fn EX (e_cb op r) τ H Q) : tCB rr (tA G fn EX r) τ H Q := by
  obtain ⟨ρ, σ, μ, R, S, h⟩ := h
  refine Zkk R S h fun ρ1 x μ1 v H1 g1 R1 S1 rx h => ?_
  obtain ⟨w, m, e, q⟩ := Zmr h
  exact o R1 rx e (Post.mono g1 q)
theorem tru_at {ρ : Rho} {μ : Mem} {x : W} {v : V} {c : Bool} (R : Rel G ρ μ H) (r : RV ρ x v) (h : tru μ x = some c) : TruV G.K v H c := by
  cases x with
  | non =>
    obtain rfl : v = .non := r
    cases h
    rfl
  | bl b =>
    obtain rfl : v = .bl b := r
    cases h
    rfl
  | int b =>
    obtain rfl : v = .int b := r
    cases h
    rfl
  | str b =>
    obtain rfl : v = .str b := r
    simp only [tru] at h
    split at h
    · rename_i hl
      cases h
      exact ⟨Zkd hl, rfl⟩
    · cases h
  | loc l =>
    obtain ⟨p, ep, rfl⟩ := r
    have em : ∀ {ws : List W} {vs : List V}, RVs ρ ws vs → (!ws.isEmpty) = !vs.isEmpty := fun q => by cases q <;> rfl
    simp only [tru] at h
    split at h
    · rename_i xs e
      cases h
      obtain ⟨vs, h1, h2⟩ := R.obj l _ p e ep
      exact .inl ⟨vs, .of h1, em h2⟩
    · rename_i xs e
      cases h
      obtain ⟨vs, h1, h2⟩ := R.obj l _ p e ep
      exact .inr (.inl ⟨vs, .of h1, em h2⟩)
    · rename_i xs e
      cases h
      obtain ⟨vs, h1, h2⟩ := R.obj l _ p e ep
      refine .inr (.inr ⟨vs, h1, ?_⟩)
      cases h2 <;> rfl
    · cases h
theorem i_ttru {Q : Bool → Hp → Prop} (h : tT G fn EX (Zhz a) τ H Q) : (fun τ H Q => tE G fn EX a τ H fun x H' => ∃ k, TruV G.K x H' k ∧ Q k H') τ H Q := by
  obtain ⟨ρ, σ, μ, R, S, h⟩ := h
  refine Zc4 R S h fun ρ1 x μ1 v H1 g1 R1 S1 rx h => ?_
  split at h
  · rename_i c e
    exact ⟨c, tru_at R1 rx e, h ρ1 H1 g1 R1⟩
  · exact h.elim
theorem i_tor {Q : Bool → Hp → Prop} (h : tT G fn EX (t_or t u) τ H Q) : tOr (tT G fn EX t) (tT G fn EX u) τ H Q := by
  obtain ⟨ρ, σ, μ, R, S, h⟩ := h
  refine tT_then R S h fun ρ1 c μ1 H1 g1 R1 S1 h => ?_
  cases c with
  | false => exact ⟨ρ1, σ, μ1, R1, S1, Zbv h (fun _ _ z => PostT.mono g1 z) fun _ _ _ z => PostX.mono g1 z⟩
  | true => exact h ρ1 H1 g1 R1
theorem i_tnot {Q : Bool → Hp → Prop} (h : tT G fn EX (Zib t) τ H Q) : tNot (tT G fn EX t) τ H Q := by
  obtain ⟨ρ, σ, μ, R, S, h⟩ := h
  refine tT_then R S h fun ρ1 c μ1 H1 g1 R1 S1 h => ?_
  exact h ρ1 H1 g1 R1
theorem i_and {Q : VK} (h : tE G fn EX (Ziw a b) τ H Q) : tAndV (tE G fn EX a) (tE G fn EX b) τ H Q := by
  obtain ⟨ρ, σ, μ, R, S, h⟩ := h
  refine Zc4 R S h fun ρ1 x μ1 v H1 g1 R1 S1 rx h => ?_
  split at h
  · exact ⟨true, rx, ⟨ρ1, σ, μ1, R1, S1, Zbv h (fun _ _ z => Post.mono g1 z) fun _ _ _ z => PostX.mono g1 z⟩⟩
  · exact ⟨false, rx, h ρ1 H1 _ g1 R1 rfl⟩
  · exact h.elim
theorem i_or {Q : VK} (h : tE G fn EX (e_or a b) τ H Q) : tOrV (tE G fn EX a) (tE G fn EX b) τ H Q := by
  obtain ⟨ρ, σ, μ, R, S, h⟩ := h
  refine Zc4 R S h fun ρ1 x μ1 v H1 g1 R1 S1 rx h => ?_
  split at h
  · exact ⟨true, rx, h ρ1 H1 _ g1 R1 rfl⟩
  · exact ⟨false, rx, ⟨ρ1, σ, μ1, R1, S1, Zbv h (fun _ _ z => Post.mono g1 z) fun _ _ _ z => PostX.mono g1 z⟩⟩
  · exact h.elim
theorem i_not {Q : VK} (h : tE G fn EX (e_not a) τ H Q) : tNotV (tE G fn EX a) τ H Q := by
  obtain ⟨ρ, σ, μ, R, S, h⟩ := h
  refine Zc4 R S h fun ρ1 x μ1 v H1 g1 R1 S1 rx h => ?_
  split at h
  · rename_i c
    exact ⟨c, rx, h ρ1 H1 _ g1 R1 rfl⟩
  · exact h.elim
/-- the promise of a def that computes f -/
noncomputable def spF (G : Gt) (fn : Nat → Str) (n : Nat) (f : Fn) : Sp := fun vs H Q E => ∃ ρ μ ws, Rel G ρ μ H ∧ RVs ρ ws vs ∧ ws.length = n ∧ wpR (f ws μ) (Post G ρ Q) (PostX G fn ρ E)
theorem i_call {n : Nat} {f : Fn} {Q : VK} (hl : ∀ σ μ xs m, r σ μ = .ok xs m → xs.length = n) (h : tE G fn EX (e_call f r) τ H Q) : tCall (spF G fn n f) [] EX (tA G fn EX r) τ H Q := by
  obtain ⟨ρ, σ, μ, R, S, h⟩ := h
  refine ⟨ρ, σ, μ, R, S, ?_⟩
  have h := wpR_bind.mp h
  cases e : r σ μ with
  | ok xs m =>
    rw [e] at h
    refine fun ρ1 H1 vs g1 R1 rx => ?_
    refine ⟨ρ1, m, xs, R1, by rw [List.append_nil]; exact rx, hl _ _ _ _ e, Zbv h (fun _ _ z => Post.mono g1 z) fun _ _ _ z => PostX.mono g1 z⟩
  | exc c w m =>
    rw [e] at h
    exact h
  | bad =>
    rw [e] at h
    exact h.elim
end
/-! ### argument lists have their lengths -/
noncomputable def ALen (n : Nat) (r : AM) : Prop := ∀ σ μ xs m, r σ μ = .ok xs m → xs.length = n
theorem Zaz : ALen 0 a_nil := fun σ μ xs m e => by cases e; rfl
theorem Zai {n : Nat} {a : EM} {r : AM} (h : ALen n r) : ALen (n + 1) (Zac a r) := fun σ μ xs m e => by
  unfold Zac at e
  cases ea : a σ μ with
  | ok x m1 =>
    rw [ea] at e
    simp only [Rs.bind] at e
    cases er : r σ m1 with
    | ok ys m2 =>
      rw [er] at e
      simp only [Rs.bind] at e
      cases e
      rw [List.length_cons, h _ _ _ _ er]
    | exc c w m => rw [er] at e; cases e
    | bad => rw [er] at e; cases e
  | exc c w m => rw [ea] at e; cases e
  | bad => rw [ea] at e; cases e

/-! ### the rules -/
section
variable {X : Cx} {G : Gt} {fn : Nat → Str} {EX : XK} {a b : Expr} {es : List Expr} {fa fb : EM} {r : AM} {t u : TM} {pos : Pos}
theorem Zak (i : Nat) {x : Str} {pos : Pos} (hN : X.N[i]? = some x := by rfl) (hv : Vis X.env.scope x := by first | exact Or.inl rfl | exact Or.inr (Or.inl rfl) | exact Or.inr (Or.inr rfl)) (hd : (x == ("__debug__" : Str)) = false := by decide)
    (hcd : (x == ("__classdict__" : Str)) = false := by decide) : PE X (.Name x pos) (tE G fn EX (Zah i)) := PE.imp (pe_var hN hv hd hcd) fun _ _ _ h => i_var h
theorem Zbn {i : Int} {j pos} : PE X (.Constant (.int i) j pos) (tE G fn EX (e_c (.int i))) := PE.imp pe_int fun _ _ _ h => i_c (w := .int i) (fun _ => rfl) h
theorem v_bl {i : Bool} {j pos} : PE X (.Constant (.bool i) j pos) (tE G fn EX (e_c (.bl i))) := PE.imp pe_bl fun _ _ _ h => i_c (w := .bl i) (fun _ => rfl) h
theorem v_non {j pos} : PE X (.Constant .none j pos) (tE G fn EX (e_c .non)) := PE.imp pe_non fun _ _ _ h => i_c (w := .non) (fun _ => rfl) h
theorem Zfo {i : Str} {j pos} : PE X (.Constant (.str i) j pos) (tE G fn EX (e_c (.str i))) := PE.imp pe_str fun _ _ _ h => i_c (w := .str i) (fun _ => rfl) h
theorem v_glob {x : Str} {w : W} {v : V} {q : Value} {pos : Pos} (hg : Gl X x) (hm : X.mg x = some q) (rq : RelV v q) (hv : ∀ ρ, RV ρ w v) (hd : (x == ("__debug__" : Str)) = false := by decide) : PE X (.Name x pos) (tE G fn EX (e_c w)) := PE.imp (pe_glob hg hm rq hd) fun _ _ _ h => i_c hv h
theorem Zed {op : Operator} {rr : R2} {p : P2} (ho : OpR X (binaryOp op) rr) (o : OpS G rr p) (ha : PE X a (tE G fn EX fa)) (hb : PE X b (tE G fn EX fb)) : PE X (.BinOp a op b pos) (tE G fn EX (Za2 p fa fb)) := PE.imp (pe_op ho ha hb) fun _ _ _ h => i_bin o h
theorem v_cmp {op : CmpOp} {rr : R2} {p : P2} (ho : OpR X (compareOp op) rr) (o : OpS G rr p) (ha : PE X a (tE G fn EX fa)) (hb : PE X b (tE G fn EX fb)) (hm : behindInMarks op b = false := by first | exact nobehind _ (by decide) (by decide) | rfl) : PE X (.Compare a [op] [b] pos) (tE G fn EX (Za2 p fa fb)) := PE.imp (pe_cmpR ho ha hb hm) fun _ _ _ h => i_bin o h
theorem Zkq {op : CmpOp} {rr : R2} {p : P2} (ho : OpR X (compareOp op) rr) (o : OpS G rr p) (ha : PE X a (tE G fn EX fa)) (hb : PE X b (tE G fn EX fb)) (hm : behindInMarks op b = false := by first | exact nobehind _ (by decide) (by decide) | rfl) : PT X (.Compare a [op] [b] pos) (tT G fn EX (Zgn (Za2 p fa fb))) :=
  PT.imp (pt_cmpR ho ha hb hm) fun τ H Q h => by
    obtain ⟨ρ, σ, μ, R, S, h⟩ := h
    refine i_bin o ?_
    refine ⟨ρ, σ, μ, R, S, Zbv (wpR_bind.mp h) (fun w μ1 hk ρ1 H1 v g R1 r => ?_) fun _ _ _ x => x⟩
    split at hk
    · rename_i c
      exact ⟨c, r, hk ρ1 H1 g R1⟩
    · exact hk.elim
theorem Zam : PA X [] (tA G fn EX a_nil) := PA.imp pa_nil fun _ _ _ h => i_nil h
theorem Zab (ha : PE X a (tE G fn EX fa)) (hr : PA X es (tA G fn EX r)) (hs : starEach (a :: es) X.env = (false, eval a X.env) :: starEach es X.env := by rfl) : PA X (a :: es) (tA G fn EX (Zac fa r)) := PA.imp (pa_cons ha hr hs) fun _ _ _ h => i_cons h
theorem Zhs {x1} (h : PA X es (tA G fn EX r)) : PE X (.Tuple es x1 pos) (tE G fn EX (Zgh r)) := PE.imp (pe_tup h) fun _ _ _ h => i_tup h
theorem Zfl (h : PA X es (tA G fn EX r)) : PE X (.List es pos) (tE G fn EX (Ze7 r)) := PE.imp (pe_lst h) fun _ _ _ h => i_lst h
theorem Zfq {x : Str} {p : Pos} {id : String} {rr : List V → Hp → VK → Prop} {op : PN} (hc : CallR X (.builtin id) rr) (o : CaS G rr op) (hg : Gl X x) (hm : X.mg x = none) (hv : bootBuiltins x = some (.builtin id)) (ha : PA X (a :: es) (tA G fn EX r)) (hn : x ≠ "__name__" := by decide) (hdb : (x == ("__debug__" : Str)) = false := by decide)
    (he : starEach (a :: es) X.env = (false, eval a X.env) :: starEach es X.env := by rfl) (hpl : (backTo pos (starEach es X.env)).any (·.1) = false := by rfl) : PE X (.Call (.Name x p) (a :: es) [] pos) (tE G fn EX (e_cb op r)) := PE.imp (pe_callB hc hg hm hv ha hn hdb he hpl) fun _ _ _ h => i_cb o h
theorem Zk0 {x : Str} {p : Pos} {T : String} {rr : List V → Hp → VK → Prop} {op : PN} (hc : CallR X (.type T) rr) (o : CaS G rr op) (hg : Gl X x) (hm : X.mg x = none) (hv : bootBuiltins x = some (.type T)) (ha : PA X (a :: es) (tA G fn EX r)) (hn : x ≠ "__name__" := by decide) (hdb : (x == ("__debug__" : Str)) = false := by decide)
    (he : starEach (a :: es) X.env = (false, eval a X.env) :: starEach es X.env := by rfl) (hpl : (backTo pos (starEach es X.env)).any (·.1) = false := by rfl) : PE X (.Call (.Name x p) (a :: es) [] pos) (tE G fn EX (e_cb op r)) := PE.imp (pe_callTy hc hg hm hv ha hn hdb he hpl) fun _ _ _ h => i_cb o h
theorem Zn5 (hK : X.K = G.K) (h : PE X a (tE G fn EX fa)) (he : ∀ whole, isTrue a X.env whole = (do let v ← whole; standAt a.pos; holding [v] (truthy v)) := by intro _; rfl) : PT X a (tT G fn EX (Zhz fa)) := PT.imp (pt_truth h he) fun _ _ _ h => by
  rw [hK]
  exact i_ttru h
theorem ww_or1 (ha : PT X a (tT G fn EX t)) : PW X (.BoolOp .Or [a] pos) (tT G fn EX t) := pw_or1 ha
theorem ww_or (ha : PT X a (tT G fn EX t)) (hb : PW X (.BoolOp .Or (b :: es) pos) (tT G fn EX u)) : PW X (.BoolOp .Or (a :: b :: es) pos) (tT G fn EX (t_or t u)) := ⟨fun wh pins s σ H Q I h => (pw_or ha hb).run wh pins s σ H Q I (i_tor h)⟩
theorem w_not (ha : PT X a (tT G fn EX t)) : PT X (.UnaryOp .Not a pos) (tT G fn EX (Zib t)) := PT.imp (pt_not ha) fun _ _ _ h => i_tnot h
theorem v_one {op} (h : PE X a (tE G fn EX fa)) : PE X (.BoolOp op [a] pos) (tE G fn EX fa) := pe_one h
theorem Zk3 (ha : PE X a (tE G fn EX fa)) (hb : PE X (.BoolOp .And (b :: es) pos) (tE G fn EX fb)) : PE X (.BoolOp .And (a :: b :: es) pos) (tE G fn EX (Ziw fa fb)) := PE.imp (pe_and ha hb) fun _ _ _ h => i_and h
theorem v_or (ha : PE X a (tE G fn EX fa)) (hb : PE X (.BoolOp .Or (b :: es) pos) (tE G fn EX fb)) : PE X (.BoolOp .Or (a :: b :: es) pos) (tE G fn EX (e_or fa fb)) := PE.imp (pe_or ha hb) fun _ _ _ h => i_or h
theorem v_not (ha : PE X a (tE G fn EX fa)) : PE X (.UnaryOp .Not a pos) (tE G fn EX (e_not fa)) := PE.imp (pe_not ha) fun _ _ _ h => i_not h
theorem Zdp {CX : CXT} {k n : Nat} {f : Addr} {fd : FuncData} {ps : List Str} {x : Str} {p : Pos} {d : Fn} (F : FnOk X.prog X.w X.K X.mg X.base CX k f fd ps (spF G fn n d)) (hr : Room k X.A) (hg : Gl X x) (hm : X.mg x = some (.ref f)) (hk : PySem.W.keepIn X.K (.ref f) = true) (hb : Binds X.K fd ps []) (hx : Passes CX X EX) (hl : ALen n r)
    (ha : PA X (a :: es) (tA G fn EX r)) (hdb : (x == ("__debug__" : Str)) = false := by decide) (he : starEach (a :: es) X.env = (false, eval a X.env) :: starEach es X.env := by rfl) (hpl : (backTo pos (starEach es X.env)).any (·.1) = false := by rfl) :
    PE X (.Call (.Name x p) (a :: es) [] pos) (tE G fn EX (e_call d r)) := PE.imp (pe_call F hr hg hm hk hb .nil hx ha hdb he hpl) fun _ _ _ h => i_call hl h
end
end Vs
namespace Vs
open PySem L2

/-! ### targets -/
noncomputable abbrev GM := W → En → Mem → Option En
noncomputable abbrev GMs := List W → En → Mem → Option En
noncomputable def g_n (i : Nat) : GM := fun w σ _ => some (σ.set i (some w))
noncomputable def tG (G : Gt) (g : GM) : TG := fun v τ H Q => ∃ ρ σ μ w σ', Rel G ρ μ H ∧ RS ρ σ τ ∧ RV ρ w v ∧ g w σ μ = some σ' ∧ ∀ τ', RS ρ σ' τ' → Q τ' H
theorem PG.imp {X : Cx} {e : Expr} {t t' : TG} (h : PG X e t) (i : ∀ v τ H Q, t' v τ H Q → t v τ H Q) : PG X e t' := ⟨fun pins s σ H v u Q I r q => h.run pins s σ H v u Q I r (i v σ H Q q)⟩
theorem PGs.imp {X : Cx} {e : List Expr} {t t' : TGs} (h : PGs X e t) (i : ∀ v τ H Q, t' v τ H Q → t v τ H Q) : PGs X e t' := ⟨fun pins s σ H v u Q I r q => h.run pins s σ H v u Q I r (i v σ H Q q)⟩
section
variable {G : Gt} {g : GM} {gs : GMs} {v : V} {vs : List V} {τ : L2.St} {H : Hp} {Q : L2.St → Hp → Prop}
theorem i_gn {i : Nat} (h : tG G (g_n i) v τ H Q) : gName i v τ H Q := by
  obtain ⟨ρ, σ, μ, w, σ', R, S, r, e, q⟩ := h
  cases e
  exact q _ (Zhl (w := some w) (v := some v) r i S)
end

/-! ### statements -/
noncomputable def Ze4 : SM := fun σ μ => .ok (.nx σ) μ
noncomputable def Zcg (a b : SM) : SM := fun σ μ => (a σ μ).bind fun f μ1 => match f with
  | .nx σ1 => b σ1 μ1
  | f => .ok f μ1
noncomputable def Zes (e : EM) (g : GM) : SM := fun σ μ => (e σ μ).bind fun w μ1 => match g w σ μ1 with
  | some σ1 => .ok (.nx σ1) μ1
  | none => .bad
noncomputable def Zet (e : EM) : SM := fun σ μ => (e σ μ).bind fun w μ1 => .ok (.rt w) μ1
noncomputable def s_if (t : TM) (a b : SM) : SM := fun σ μ => (t σ μ).bind fun c μ1 => if c = true then a σ μ1 else b σ μ1
noncomputable def s_ex (e : EM) : SM := fun σ μ => (e σ μ).bind fun _ μ1 => .ok (.nx σ) μ1
noncomputable def Zku : SM := fun _ _ => .bad
/-- behind a turn of a loop -/
noncomputable def turn (k : En → Mem → Rs Fl) : Fl → Mem → Rs Fl
  | .nx σ, μ => k σ μ
  | .ct σ, μ => k σ μ
  | .bk σ, μ => .ok (.nx σ) μ
  | .rt w, μ => .ok (.rt w) μ
section
variable {G : Gt} {fn : Nat → Str} {EX : XK} {a : EM} {r : AM} {t : TM} {b c : SM} {g : GM} {D : Ends} {τ : L2.St} {H : Hp}
theorem i_skip (h : tS G fn EX Ze4 D τ H) : tNext D τ H := by
  obtain ⟨ρ, σ, μ, R, S, h⟩ := h
  exact h ρ H (Gr.refl ρ) R τ S
theorem tS_go {ρ ρ1 : Rho} {σ : En} {μ : Mem} {b : SM} (g : Gr ρ ρ1) (R : Rel G ρ1 μ H) (S : RS ρ1 σ τ) (h : wpR (b σ μ) (PostS G ρ D) (PostX G fn ρ EX)) : tS G fn EX b D τ H :=
  ⟨ρ1, σ, μ, R, S, Zbv h (fun _ _ z => PostS.mono g z) fun _ _ _ z => PostX.mono g z⟩
theorem i_seq (h : tS G fn EX (Zcg b c) D τ H) : tSeq (tS G fn EX b) (tS G fn EX c) D τ H := by
  obtain ⟨ρ, σ, μ, R, S, h⟩ := h
  refine ⟨ρ, σ, μ, R, S, Zbv (wpR_bind.mp h) (fun f μ1 hk ρ1 H1 g1 R1 => ?_) fun _ _ _ x => x⟩
  cases f with
  | nx σ1 => exact fun τ1 S1 => tS_go g1 R1 S1 hk
  | rt w => exact hk ρ1 H1 g1 R1
  | bk σ1 => exact hk ρ1 H1 g1 R1
  | ct σ1 => exact hk ρ1 H1 g1 R1
theorem i_ret (h : tS G fn EX (Zet a) D τ H) : tRet (tE G fn EX a) D τ H := by
  obtain ⟨ρ, σ, μ, R, S, h⟩ := h
  exact Zc4 R S h fun ρ1 w μ1 v H1 g1 R1 S1 r1 h => h ρ1 H1 g1 R1 v r1
theorem i_sif (h : tS G fn EX (s_if t b c) D τ H) : tIfS (tT G fn EX t) (tS G fn EX b) (tS G fn EX c) D τ H := by
  obtain ⟨ρ, σ, μ, R, S, h⟩ := h
  refine tT_then R S h fun ρ1 w μ1 H1 g1 R1 S1 h => ?_
  cases w with
  | true => exact tS_go g1 R1 S1 h
  | false => exact tS_go g1 R1 S1 h
theorem i_ex (h : tS G fn EX (s_ex a) D τ H) : tDrop (tE G fn EX a) D τ H := by
  obtain ⟨ρ, σ, μ, R, S, h⟩ := h
  exact Zc4 R S h fun ρ1 w μ1 v H1 g1 R1 S1 r1 h => h ρ1 H1 g1 R1 τ S1
/-- a turn's body, its ends -/
theorem turn_ends {ρ : Rho} {σ1 : En} {μ1 : Mem} {k : En → Mem → Rs Fl} {N : L2.St → Hp → Prop} (R1 : Rel G ρ μ1 H) (S1 : RS ρ σ1 τ) (h : wpR ((b σ1 μ1).bind (turn k)) (PostS G ρ D) (PostX G fn ρ EX))
    (hN : ∀ ρ2 σ2 μ2 τ2 H2, Gr ρ ρ2 → Rel G ρ2 μ2 H2 → RS ρ2 σ2 τ2 → wpR (k σ2 μ2) (PostS G ρ2 D) (PostX G fn ρ2 EX) → N τ2 H2) : tS G fn EX b { D with nx := N, ct := N, bk := D.nx } τ H := by
  refine ⟨ρ, σ1, μ1, R1, S1, Zbv (wpR_bind.mp h) (fun f μ2 hk ρ2 H2 g2 R2 => ?_) fun _ _ _ x => x⟩
  cases f with
  | nx σ2 => exact fun τ2 S2 => hN ρ2 σ2 μ2 τ2 H2 g2 R2 S2 (Zbv hk (fun _ _ z => PostS.mono g2 z) fun _ _ _ z => PostX.mono g2 z)
  | ct σ2 => exact fun τ2 S2 => hN ρ2 σ2 μ2 τ2 H2 g2 R2 S2 (Zbv hk (fun _ _ z => PostS.mono g2 z) fun _ _ _ z => PostX.mono g2 z)
  | bk σ2 => exact hk ρ2 H2 g2 R2
  | rt w => exact hk ρ2 H2 g2 R2
theorem wpS_mono {ρ ρ1 : Rho} {f : Rs Fl} (g : Gr ρ ρ1) (h : wpR f (PostS G ρ D) (PostX G fn ρ EX)) : wpR f (PostS G ρ1 D) (PostX G fn ρ1 EX) := Zbv h (fun _ _ z => PostS.mono g z) fun _ _ _ z => PostX.mono g z
theorem drop_cons {α : Type} {xs : List α} {i : Nat} {x : α} (h : xs[i]? = some x) : xs.drop i = x :: xs.drop (i + 1) := by
  obtain ⟨h1, h2⟩ := List.getElem?_eq_some_iff.mp h
  rw [List.drop_eq_getElem_cons h1, h2]
theorem RV.fun {ρ : Rho} : ∀ {w : W} {v u : V}, RV ρ w v → RV ρ w u → v = u
  | .non, _, _, h, k => by rw [show _ = V.non from h, show _ = V.non from k]
  | .bl b, _, _, h, k => by rw [show _ = V.bl b from h, show _ = V.bl b from k]
  | .int b, _, _, h, k => by rw [show _ = V.int b from h, show _ = V.int b from k]
  | .str b, _, _, h, k => by rw [show _ = V.str b from h, show _ = V.str b from k]
  | .loc l, _, _, ⟨a, e, h⟩, ⟨b, e', k⟩ => by
    rw [e] at e'
    cases e'
    rw [h, k]
theorem RVs.fun {ρ : Rho} : ∀ {ws : List W} {vs us : List V}, RVs ρ ws vs → RVs ρ ws us → vs = us
  | _, _, _, .nil, .nil => rfl
  | _, _, _, .cons r t, .cons r' t' => by rw [RV.fun r r', RVs.fun t t']
theorem RK.fun {κ : Type} {ρ : Rho} : ∀ {ws : List (κ × W)} {vs us : List (κ × V)}, RK ρ ws vs → RK ρ ws us → vs = us
  | _, _, _, .nil, .nil => rfl
  | _, _, _, .cons (b := b) r t, .cons (b := b') r' t' => by rw [RK.fun t t', Prod.ext (r.1.symm.trans r'.1) (RV.fun r.2 r'.2)]
end
end Vs
namespace Vs
open PySem L2

/-! ### comparisons -/
noncomputable def scW : W → W → Bool
  | .loc _, _ => false
  | _, .loc _ => false
  | .bl _, .int _ => false
  | .int _, .bl _ => false
  | _, _ => true
noncomputable def pEqS : P2 := fun x y μ => if scW x y = true then some (.bl (decide (x = y)), μ) else none
noncomputable def pNeS : P2 := fun x y μ => if scW x y = true then some (.bl (!decide (x = y)), μ) else none
theorem sc_at {ρ : Rho} {x y : W} {v u : V} (h : scW x y = true) (r : RV ρ x v) (q : RV ρ y u) : scal v u = true ∧ decide (v = u) = decide (x = y) := by
  cases x <;> cases y <;> first
    | (rw [show v = _ from r, show u = _ from q]; exact ⟨rfl, by simp⟩)
    | (cases h; done)
theorem Zgd {G : Gt} {ρ : Rho} {μ : Mem} {H : Hp} {Q : VK} {b : Bool} (R : Rel G ρ μ H) (q : Post G ρ Q (.bl b) μ) : Q (.bl b) H := q ρ H _ (Gr.refl ρ) R rfl
theorem Ziq {G : Gt} {ρ : Rho} {μ : Mem} {H : Hp} {Q : VK} {b : Int} (R : Rel G ρ μ H) (q : Post G ρ Q (.int b) μ) : Q (.int b) H := q ρ H _ (Gr.refl ρ) R rfl
theorem post_str {G : Gt} {ρ : Rho} {μ : Mem} {H : Hp} {Q : VK} {b : Str} (R : Rel G ρ μ H) (q : Post G ρ Q (.str b) μ) : Q (.str b) H := q ρ H _ (Gr.refl ρ) R rfl
theorem ops_eqS {G : Gt} : OpS G rEq pEqS := by
  intro ρ μ H x y w v u μ' Q R rx ry e q
  unfold pEqS at e
  split at e
  · rename_i h
    cases e
    obtain ⟨h1, h2⟩ := sc_at h rx ry
    exact ⟨h1, by rw [h2]; exact Zgd R q⟩
  · cases e
theorem ops_neS {G : Gt} : OpS G rNe pNeS := by
  intro ρ μ H x y w v u μ' Q R rx ry e q
  unfold pNeS at e
  split at e
  · rename_i h
    cases e
    obtain ⟨h1, h2⟩ := sc_at h rx ry
    exact ⟨h1, by rw [h2]; exact Zgd R q⟩
  · cases e
mutual
noncomputable def deep (μ : Mem) : Nat → W → Option PyData
  | _, .non => some .none
  | _, .bl b => some (.bool b)
  | _, .int i => some (.int i)
  | _, .str x => some (.str x)
  | 0, .loc _ => none
  | n + 1, .loc l => match μ[l]? with
    | some (.lst xs) => (Zll μ n xs).map .list
    | some (.tup xs) => (Zll μ n xs).map .tuple
    | some (.scr ns) => some (.list (ns.map .int))
    | _ => none
noncomputable def Zll (μ : Mem) : Nat → List W → Option (List PyData)
  | _, [] => some []
  | n, x :: xs => (deep μ n x).bind fun d => (Zll μ n xs).map fun ds => d :: ds
end
theorem dp_ints {K : PySem.W.Frag} {H : Hp} : ∀ ns : List Int, DpAll K H (ns.map V.int) (ns.map PyData.int)
  | [] => .nil
  | n :: ns => .cons (.int n) (dp_ints ns)
theorem deep_at {G : Gt} {ρ : Rho} {μ : Mem} {H : Hp} (R : Rel G ρ μ H) (n : Nat) : (∀ (w : W) (v : V) (d : PyData), RV ρ w v → deep μ n w = some d → Dp G.K H v d) ∧ ∀ (ws : List W) (vs : List V) (ds : List PyData), RVs ρ ws vs → Zll μ n ws = some ds → DpAll G.K H vs ds := by
  have lists : ∀ n, (∀ (w : W) (v : V) (d : PyData), RV ρ w v → deep μ n w = some d → Dp G.K H v d) → ∀ (ws : List W) (vs : List V) (ds : List PyData), RVs ρ ws vs → Zll μ n ws = some ds → DpAll G.K H vs ds := by
    intro n h ws vs ds r
    induction r generalizing ds with
    | nil =>
      intro e
      unfold Zll at e
      cases e
      exact .nil
    | cons a b ih =>
      intro e
      unfold Zll at e
      obtain ⟨d, e1, e2⟩ := Option.bind_eq_some_iff.mp e
      obtain ⟨ds', e3, e4⟩ := Option.map_eq_some_iff.mp e2
      subst e4
      exact .cons (h _ _ _ a e1) (ih _ e3)
  have one : ∀ n, (∀ m, m < n → ∀ (ws : List W) (vs : List V) (ds : List PyData), RVs ρ ws vs → Zll μ m ws = some ds → DpAll G.K H vs ds) → ∀ (w : W) (v : V) (d : PyData), RV ρ w v → deep μ n w = some d → Dp G.K H v d := by
    intro n ih w v d r e
    cases w with
    | non => rw [show v = .non from r]; unfold deep at e; cases e; exact .non
    | bl b => rw [show v = .bl b from r]; unfold deep at e; cases e; exact .bl b
    | int b => rw [show v = .int b from r]; unfold deep at e; cases e; exact .int b
    | str b => rw [show v = .str b from r]; unfold deep at e; cases e; exact .str b
    | loc l =>
      obtain ⟨a, ea, rfl⟩ := r
      cases n with
      | zero => unfold deep at e; cases e
      | succ n =>
        unfold deep at e
        split at e
        · rename_i xs eo
          obtain ⟨ds, e1, e2⟩ := Option.map_eq_some_iff.mp e
          subst e2
          obtain ⟨vs, h1, h2⟩ := R.obj l _ a eo ea
          exact .lst (.of h1) (ih n (Nat.lt_succ_self n) _ _ _ h2 e1)
        · rename_i xs eo
          obtain ⟨ds, e1, e2⟩ := Option.map_eq_some_iff.mp e
          subst e2
          obtain ⟨vs, h1, h2⟩ := R.obj l _ a eo ea
          exact .tup (.of h1) (ih n (Nat.lt_succ_self n) _ _ _ h2 e1)
        · rename_i xs eo
          cases e
          obtain ⟨o, h1⟩ := R.obj l _ a eo ea
          exact .lst (.inl (.inr ⟨o, h1⟩)) (dp_ints xs)
        · cases e
  have all : ∀ n, ∀ (w : W) (v : V) (d : PyData), RV ρ w v → deep μ n w = some d → Dp G.K H v d := fun n => by
    induction n using Nat.strongRecOn with
    | ind n ih => exact one n fun m hm => lists m (ih m hm)
  exact ⟨all n, lists n (all n)⟩
noncomputable def dval (μ : Mem) (w : W) : Option PyData := (deep μ 60 w).bind fun d => if SeqAt.shaped d = true then some d else none
theorem dval_at {G : Gt} {ρ : Rho} {μ : Mem} {H : Hp} {w : W} {v : V} {d : PyData} (R : Rel G ρ μ H) (r : RV ρ w v) (e : dval μ w = some d) : Dp G.K H v d ∧ SeqAt.shaped d = true := by
  unfold dval at e
  obtain ⟨d', e1, e2⟩ := Option.bind_eq_some_iff.mp e
  split at e2
  · rename_i h
    cases e2
    exact ⟨(deep_at R 60).1 w v d r e1, h⟩
  · cases e2
noncomputable def pEqD : P2 := fun x y μ => (dval μ x).bind fun d => (dval μ y).bind fun e => some (.bl (PyData.eqv d e), μ)
noncomputable def pNeD : P2 := fun x y μ => (dval μ x).bind fun d => (dval μ y).bind fun e => some (.bl (!PyData.eqv d e), μ)
theorem ops_eqD {G : Gt} : OpS G (rEqD G.K) pEqD := by
  intro ρ μ H x y w v u μ' Q R rx ry e q
  obtain ⟨d, e1, e⟩ := Option.bind_eq_some_iff.mp e
  obtain ⟨d', e2, e⟩ := Option.bind_eq_some_iff.mp e
  cases e
  obtain ⟨h1, h2⟩ := dval_at R rx e1
  obtain ⟨h3, h4⟩ := dval_at R ry e2
  exact ⟨d, d', h1, h3, h2, h4, Zgd R q⟩
theorem ops_neD {G : Gt} : OpS G (rNeD G.K) pNeD := by
  intro ρ μ H x y w v u μ' Q R rx ry e q
  obtain ⟨d, e1, e⟩ := Option.bind_eq_some_iff.mp e
  obtain ⟨d', e2, e⟩ := Option.bind_eq_some_iff.mp e
  cases e
  obtain ⟨h1, h2⟩ := dval_at R rx e1
  obtain ⟨h3, h4⟩ := dval_at R ry e2
  exact ⟨d, d', h1, h3, h2, h4, Zgd R q⟩
/-- dicts, equal ones -/
noncomputable def Zkj : W → Bool
  | .loc _ => false
  | _ => true
noncomputable def valW {κ : Type} [DecidableEq κ] (kvs : List (κ × W)) (k : κ) : Option W := (kvs.find? fun kv => decide (kv.1 = k)).map (·.2)
noncomputable def putW {κ : Type} [DecidableEq κ] (kvs : List (κ × W)) (k : κ) (v : W) : List (κ × W) :=
  if (kvs.any fun kv => decide (kv.1 = k)) = true then kvs.map (fun kv => if kv.1 = k then (kv.1, v) else kv) else kvs ++ [(k, v)]
theorem rk_val {κ : Type} [DecidableEq κ] {ρ : Rho} {k : κ} : ∀ {ws : List (κ × W)} {vs : List (κ × V)}, RK ρ ws vs → (∀ w, valW ws k = some w → ∃ v, valV vs k = some v ∧ RV ρ w v) ∧ (valW ws k = none → valV vs k = none)
  | _, _, .nil => ⟨fun w h => (nomatch h), fun _ => rfl⟩
  | _, _, .cons (a := p) (b := q) r t => by
    obtain ⟨h1, h2⟩ := rk_val (k := k) t
    by_cases e : p.1 = k
    · have e' : q.1 = k := r.1 ▸ e
      have x1 : ∀ l, valW (p :: l) k = some p.2 := fun l => by simp [valW, List.find?_cons, e]
      have x2 : ∀ l, valV (q :: l) k = some q.2 := fun l => valV_pos e'
      exact ⟨fun w h => ⟨q.2, x2 _, (by rw [x1] at h; cases h; exact r.2)⟩, fun h => (by rw [x1] at h; cases h)⟩
    · have e' : ¬ q.1 = k := r.1 ▸ e
      have x1 : ∀ l, valW (p :: l) k = valW l k := fun l => by simp [valW, List.find?_cons, e]
      have x2 : ∀ l, valV (q :: l) k = valV l k := fun l => valV_neg e'
      rw [x1, x2]
      exact ⟨h1, h2⟩
theorem rk_len {κ : Type} {ρ : Rho} {ws : List (κ × W)} {vs : List (κ × V)} (h : RK ρ ws vs) : ws.length = vs.length := Paired.length h
noncomputable def eqDic (ks ls : List (Key × W)) : Bool := decide (ks.length = ls.length) && ks.all fun p => decide (valW ls p.1 = some p.2) && Zkj p.2
noncomputable def pEqC : P2 := fun x y μ => (getD μ x).bind fun ks => (getD μ y).bind fun ls => if eqDic ks ls = true then some (.bl true, μ) else none
noncomputable def pNeC : P2 := fun x y μ => (getD μ x).bind fun ks => (getD μ y).bind fun ls => if eqDic ks ls = true then some (.bl false, μ) else none
theorem flatB_of {ρ : Rho} {w : W} {v : V} (r : RV ρ w v) (h : Zkj w = true) : flatB v = true := by
  cases w with
  | loc l => cases h
  | non => rw [show v = _ from r]; rfl
  | bl b => rw [show v = _ from r]; rfl
  | int b => rw [show v = _ from r]; rfl
  | str b => rw [show v = _ from r]; rfl
theorem eqDic_at {ρ : Rho} {ks ls : List (Key × W)} {us vs : List (Key × V)} (a : RK ρ ks us) (b : RK ρ ls vs) (h : eqDic ks ls = true) : us.length = vs.length ∧ ∀ p ∈ us, valV vs p.1 = some p.2 ∧ flatB p.2 = true := by
  obtain ⟨h1, h2⟩ := Bool.and_eq_true_iff.mp h
  refine ⟨by rw [← rk_len a, ← rk_len b]; exact of_decide_eq_true h1, ?_⟩
  have key : ∀ {ks : List (Key × W)} {us : List (Key × V)}, RK ρ ks us → (ks.all fun p => decide (valW ls p.1 = some p.2) && Zkj p.2) = true → ∀ p ∈ us, valV vs p.1 = some p.2 ∧ flatB p.2 = true := by
    intro ks us r
    induction r with
    | nil => intro _ p hp; cases hp
    | @cons x y _ _ r t ih =>
      intro h p hp
      rw [List.all_cons] at h
      obtain ⟨h1, h2⟩ := Bool.and_eq_true_iff.mp h
      obtain ⟨h3, h4⟩ := Bool.and_eq_true_iff.mp h1
      rcases List.mem_cons.mp hp with e | hp
      · subst e
        obtain ⟨v, e1, e2⟩ := (rk_val (k := x.1) b).1 x.2 (of_decide_eq_true h3)
        rw [← r.1, e1, RV.fun e2 r.2]
        exact ⟨rfl, flatB_of r.2 h4⟩
      · exact ih h2 p hp
  exact key a h2
theorem ops_eqC {G : Gt} : OpS G rEqDA pEqC := by
  intro ρ μ H x y w v u μ' Q R rx ry e q
  obtain ⟨d, e1, e⟩ := Option.bind_eq_some_iff.mp e
  obtain ⟨d', e2, e⟩ := Option.bind_eq_some_iff.mp e
  split at e
  · rename_i h
    cases e
    obtain ⟨l, a, vs, _, rfl, _, _, h1, r1⟩ := Zky R rx e1
    obtain ⟨l', b, us, _, rfl, _, _, h2, r2⟩ := Zky R ry e2
    obtain ⟨h3, h4⟩ := eqDic_at r1 r2 h
    exact ⟨a, b, vs, us, rfl, rfl, h1, h2, h3, h4, Zgd R q⟩
  · cases e
theorem ops_neC {G : Gt} : OpS G rNeDA pNeC := by
  intro ρ μ H x y w v u μ' Q R rx ry e q
  obtain ⟨d, e1, e⟩ := Option.bind_eq_some_iff.mp e
  obtain ⟨d', e2, e⟩ := Option.bind_eq_some_iff.mp e
  split at e
  · rename_i h
    cases e
    obtain ⟨l, a, vs, _, rfl, _, _, h1, r1⟩ := Zky R rx e1
    obtain ⟨l', b, us, _, rfl, _, _, h2, r2⟩ := Zky R ry e2
    obtain ⟨h3, h4⟩ := eqDic_at r1 r2 h
    exact ⟨a, b, vs, us, rfl, rfl, h1, h2, h3, h4, Zgd R q⟩
  · cases e
noncomputable def pEq : P2 := por pEqS (por pEqD pEqC)
noncomputable def pNe : P2 := por pNeS (por pNeD pNeC)
theorem o_eq {X : Cx} (hu : X.A.units + 64 < cLine) : OpR X (compareOp .Eq) (fun x y H Q => rEq x y H Q ∨ (rEqD X.K x y H Q ∨ rEqDA x y H Q)) := .or op_eq (.or (op_eqD hu) (op_eq_dictA (by omega)))
theorem o_ne {X : Cx} (hu : X.A.units + 64 < cLine) : OpR X (compareOp .NotEq) (fun x y H Q => rNe x y H Q ∨ (rNeD X.K x y H Q ∨ rNeDA x y H Q)) := .or op_ne (.or (op_neD hu) (op_ne_dictA (by omega)))
theorem Zmv {G : Gt} : OpS G (fun x y H Q => rEq x y H Q ∨ (rEqD G.K x y H Q ∨ rEqDA x y H Q)) pEq := OpS.or ops_eqS (OpS.or ops_eqD ops_eqC)
theorem Zi2 {G : Gt} : OpS G (fun x y H Q => rNe x y H Q ∨ (rNeD G.K x y H Q ∨ rNeDA x y H Q)) pNe := OpS.or ops_neS (OpS.or ops_neD ops_neC)
noncomputable def pGt : P2 := pI (fun _ _ => true) fun i j => .bl (decide (j < i))
theorem ops_gt {G : Gt} : OpS G (rI0 fun i j => .bl (decide (j < i))) pGt := by
  unfold pGt
  exact ops_I0 (by intros; rfl)
/-- in: a list, a tuple of flat items; a dict -/
noncomputable def eqW : W → W → Bool
  | .non, .non => true
  | .bl a, .bl b => a == b
  | .bl a, .int b => (if a then 1 else 0) == b
  | .int a, .bl b => a == (if b then 1 else 0)
  | .int a, .int b => a == b
  | .str a, .str b => a == b
  | _, _ => false
noncomputable def inW (x : W) (xs : List W) : Bool := xs.any fun y => eqW y x
theorem flatV_of {ρ : Rho} {w : W} {v : V} (r : RV ρ w v) (h : Zkj w = true) : flatV v = true := by
  cases w with
  | loc l => cases h
  | non => rw [show v = _ from r]; rfl
  | bl b => rw [show v = _ from r]; rfl
  | int b => rw [show v = _ from r]; rfl
  | str b => rw [show v = _ from r]; rfl
theorem eqV_of {ρ : Rho} {x y : W} {v u : V} (r : RV ρ x v) (q : RV ρ y u) (h : Zkj x = true) (k : Zkj y = true) : eqV v u = eqW x y := by
  cases x <;> cases y <;> first
    | (rw [show v = _ from r, show u = _ from q]; rfl)
    | (cases h; done)
    | (cases k; done)
theorem inV_of {ρ : Rho} {x : W} {v : V} (r : RV ρ x v) (hx : Zkj x = true) : ∀ {ws : List W} {vs : List V}, RVs ρ ws vs → ws.all Zkj = true → vs.all flatV = true ∧ inV v vs = inW x ws
  | _, _, .nil, _ => ⟨rfl, rfl⟩
  | _, _, .cons a b, h => by
    rw [List.all_cons] at h
    obtain ⟨h1, h2⟩ := Bool.and_eq_true_iff.mp h
    obtain ⟨i1, i2⟩ := inV_of r hx b h2
    refine ⟨by rw [List.all_cons, flatV_of a h1, i1]; rfl, ?_⟩
    unfold inV inW at i2 ⊢
    rw [List.any_cons, List.any_cons, i2, eqV_of a r h1 hx]
noncomputable def seqW (μ : Mem) (w : W) : Option (List W) := match getR μ w with
  | some xs => some xs
  | none => getT μ w
theorem seqW_at {G : Gt} {ρ : Rho} {μ : Mem} {H : Hp} {w : W} {v : V} (R : Rel G ρ μ H) (r : RV ρ w v) {xs : List W} (h : seqW μ w = some xs) : ∃ a vs, v = .ref a ∧ (SqL G.K H a vs ∨ SqT G.K H a vs) ∧ RVs ρ xs vs := by
  unfold seqW at h
  split at h
  · rename_i ys e
    cases h
    obtain ⟨l, a, vs, _, h2, _, h4, h5⟩ := Zgv R r e
    exact ⟨a, vs, h2, .inl h4, h5⟩
  · obtain ⟨l, a, vs, _, h2, _, h4, h5⟩ := Zih R r h
    exact ⟨a, vs, h2, .inr h4, h5⟩
noncomputable def pInQ (neg : Bool) : P2 := fun x y μ => (seqW μ y).bind fun xs => if (Zkj x && xs.all Zkj) = true then some (.bl (if neg then !inW x xs else inW x xs), μ) else none
theorem ops_inQ {G : Gt} {neg : Bool} : OpS G (rIn G.K neg) (pInQ neg) := by
  intro ρ μ H x y w v u μ' Q R rx ry e q
  obtain ⟨xs, e1, e⟩ := Option.bind_eq_some_iff.mp e
  split at e
  · rename_i h
    cases e
    obtain ⟨h1, h2⟩ := Bool.and_eq_true_iff.mp h
    obtain ⟨a, vs, rfl, h3, r1⟩ := seqW_at R ry e1
    obtain ⟨i1, i2⟩ := inV_of rx h1 r1 h2
    exact ⟨a, vs, rfl, h3, flatV_of rx h1, i1, by rw [i2]; exact Zgd R q⟩
  · cases e
noncomputable def keyW : W → Option Key
  | .int i => some (.inl i)
  | .str x => some (.inr x)
  | _ => none
theorem keyW_at {ρ : Rho} {w : W} {v : V} {k : Key} (r : RV ρ w v) (h : keyW w = some k) : v = kV k := by
  cases w with
  | int i => cases h; exact r
  | str i => cases h; exact r
  | _ => cases h
noncomputable def pInD (neg : Bool) : P2 := fun x y μ => (getE μ y).bind fun kvs => (keyW x).bind fun k => some (.bl (if neg then !(valW kvs k).isSome else (valW kvs k).isSome), μ)
noncomputable def rInK (neg : Bool) : R2 := fun x y H Q => ∃ a o, y = .ref a ∧ DGet H a x o ∧ Q (.bl (if neg then !o.isSome else o.isSome)) H
theorem rk_some {ρ : Rho} {k : Key} {ws : List (Key × W)} {vs : List (Key × V)} (h : RK ρ ws vs) : (valV vs k).isSome = (valW ws k).isSome := by
  obtain ⟨h1, h2⟩ := rk_val (k := k) h
  cases e : valW ws k with
  | none => rw [h2 e]; rfl
  | some w =>
    obtain ⟨v, e1, _⟩ := h1 w e
    rw [e1]
    rfl
theorem ops_inD {G : Gt} {neg : Bool} : OpS G (rInK neg) (pInD neg) := by
  intro ρ μ H x y w v u μ' Q R rx ry e q
  obtain ⟨xs, e1, e⟩ := Option.bind_eq_some_iff.mp e
  obtain ⟨k, e2, e⟩ := Option.bind_eq_some_iff.mp e
  cases e
  obtain ⟨l, a, vs, _, rfl, _, h1, r1⟩ := getE_at R ry e1
  rw [keyW_at rx e2]
  exact ⟨a, valV vs k, rfl, .inl ⟨vs, k, h1, rfl, rfl⟩, by rw [rk_some r1]; exact Zgd R q⟩
theorem op_niK {X : Cx} (hu : X.A.units + 1 < cLine) : OpR X (compareOp .NotIn) (rInK true) := by
  intro pins s σ H x y v u Q I rx ry h
  obtain ⟨a, o, rfl, g, q⟩ := h
  obtain rfl : u = Value.ref a := ry
  exact d_notIn hu I g rx fun s3 I3 => ⟨.bl (!o.isSome), H, I3, rfl, q⟩
noncomputable def pIn (neg : Bool) : P2 := por (pInQ neg) (pInD neg)
theorem o_ni {X : Cx} (hu : X.A.units + 1 < cLine) : OpR X (compareOp .NotIn) (fun x y H Q => rIn X.K true x y H Q ∨ rInK true x y H Q) := .or op_notIn_seq (op_niK hu)
theorem ops_in {G : Gt} {neg : Bool} : OpS G (fun x y H Q => rIn G.K neg x y H Q ∨ rInK neg x y H Q) (pIn neg) := OpS.or ops_inQ ops_inD
theorem Zfx {X : Cx} : OpR X (binaryOp .Add) (fun x y H Q => rI0 (fun i j => .int (i + j)) x y H Q ∨ ((∃ i j, x = .str i ∧ y = .str j ∧ i.length + j.length ≤ sizeLine ∧ Q (.str (i ++ j)) H) ∨ (rCat x y H Q ∨ rCatA X.K x y H Q))) := .or op_add (.or op_add_str (.or op_cat op_catA))
theorem Zdy {G : Gt} : OpS G (fun x y H Q => rI0 (fun i j => .int (i + j)) x y H Q ∨ ((∃ i j, x = .str i ∧ y = .str j ∧ i.length + j.length ≤ sizeLine ∧ Q (.str (i ++ j)) H) ∨ (rCat x y H Q ∨ rCatA G.K x y H Q))) pAdd := OpS.or ops_addI (OpS.or ops_addS (OpS.or ops_addL ops_addT))
end Vs
namespace Vs
open PySem L2

/-! ### items -/
theorem at_rv {ρ : Rho} {ws : List W} {vs : List V} (r : RVs ρ ws vs) {i : Int} {w : W} (h : atI ws i = some w) : ∃ v, atI vs i = some v ∧ RV ρ w v := by
  unfold atI at h ⊢
  rw [← Zeu r]
  obtain ⟨j, e1, e2⟩ := Option.bind_eq_some_iff.mp h
  obtain ⟨v, e3, e4⟩ := Zkt r e2
  exact ⟨v, Option.bind_eq_some_iff.mpr ⟨j, e1, e3⟩, e4⟩
noncomputable def pIxL : P2 := fun x y μ => (getR μ x).bind fun xs => match y with
  | .int i => (atI xs i).map fun w => (w, μ)
  | _ => none
noncomputable def pIxT : P2 := fun x y μ => (getT μ x).bind fun xs => match y with
  | .int i => (atI xs i).map fun w => (w, μ)
  | _ => none
noncomputable def pIxS : P2 := fun x y μ => match x, y with
  | .str z, .int i => if z.length ≤ LIM then (atI z.cps.toList i).map fun c => (.str ⟨#[c]⟩, μ) else none
  | _, _ => none
noncomputable def pIxD : P2 := fun x y μ => (getE μ x).bind fun kvs => (keyW y).bind fun k => (valW kvs k).map fun w => (w, μ)
theorem ops_ixL {G : Gt} : OpS G (rIxL G.K) pIxL := by
  intro ρ μ H x y w v u μ' Q R rx ry e q
  obtain ⟨xs, e1, e⟩ := Option.bind_eq_some_iff.mp e
  obtain ⟨l, a, vs, _, rfl, _, h1, r1⟩ := Zgv R rx e1
  cases y with
  | int i =>
    obtain ⟨z, e2, e3⟩ := Option.map_eq_some_iff.mp e
    cases e3
    obtain ⟨t, h2, h3⟩ := at_rv r1 e2
    exact ⟨a, vs, i, t, rfl, ry, h1, h2, Zjl R h3 q⟩
  | _ => cases e
theorem ops_ixT {G : Gt} : OpS G (rIxT G.K) pIxT := by
  intro ρ μ H x y w v u μ' Q R rx ry e q
  obtain ⟨xs, e1, e⟩ := Option.bind_eq_some_iff.mp e
  obtain ⟨l, a, vs, _, rfl, _, h1, r1⟩ := Zih R rx e1
  cases y with
  | int i =>
    obtain ⟨z, e2, e3⟩ := Option.map_eq_some_iff.mp e
    cases e3
    obtain ⟨t, h2, h3⟩ := at_rv r1 e2
    exact ⟨a, vs, i, t, rfl, ry, h1, h2, Zjl R h3 q⟩
  | _ => cases e
theorem ops_ixS {G : Gt} : OpS G rIxS pIxS := by
  intro ρ μ H x y w v u μ' Q R rx ry e q
  unfold pIxS at e
  split at e
  · rename_i z i
    split at e
    · rename_i hl
      obtain ⟨c, e2, e3⟩ := Option.map_eq_some_iff.mp e
      cases e3
      exact ⟨z, i, c, rx, ry, Zkd hl, e2, post_str R q⟩
    · cases e
  · cases e
noncomputable def rDGet : R2 := fun x y H Q => ∃ a v, x = .ref a ∧ DGet H a y (some v) ∧ Q v H
theorem ops_ixD {G : Gt} : OpS G rDGet pIxD := by
  intro ρ μ H x y w v u μ' Q R rx ry e q
  obtain ⟨kvs, e1, e⟩ := Option.bind_eq_some_iff.mp e
  obtain ⟨k, e2, e⟩ := Option.bind_eq_some_iff.mp e
  obtain ⟨z, e3, e4⟩ := Option.map_eq_some_iff.mp e
  cases e4
  obtain ⟨l, a, vs, _, rfl, _, h1, r1⟩ := getE_at R rx e1
  rw [keyW_at ry e2]
  obtain ⟨t, h2, h3⟩ := (rk_val (k := k) r1).1 _ e3
  exact ⟨a, t, rfl, .inl ⟨vs, k, h1, rfl, h2.symm⟩, Zjl R h3 q⟩
noncomputable def pIxQ : P2 := por pIxL (por pIxT pIxS)
theorem ops_ixQ {G : Gt} : OpS G (fun x y H Q => rIxL G.K x y H Q ∨ (rIxT G.K x y H Q ∨ rIxS x y H Q)) pIxQ := OpS.or ops_ixL (OpS.or ops_ixT ops_ixS)
theorem o_ixQ {X : Cx} : IxR X (fun x y H Q => rIxL X.K x y H Q ∨ (rIxT X.K x y H Q ∨ rIxS x y H Q)) := .or ix_list (.or ix_tup ix_str)
theorem PE.or {X : Cx} {e : Expr} {t t' : TE} (h : PE X e t) (h' : PE X e t') : PE X e (fun τ H Q => t τ H Q ∨ t' τ H Q) := ⟨fun pins s σ H Q I q => q.elim (h.run pins s σ H Q I) (h'.run pins s σ H Q I)⟩
theorem bin_or {G : Gt} {fn : Nat → Str} {EX : XK} {p q : P2} {a b : EM} {τ : L2.St} {H : Hp} {Q : VK} (h : tE G fn EX (Za2 (por p q) a b) τ H Q) : tE G fn EX (Za2 p a b) τ H Q ∨ tE G fn EX (Za2 q a b) τ H Q := by
  obtain ⟨ρ, σ, μ, R, S, h⟩ := h
  unfold Za2 at h
  cases ea : a σ μ with
  | ok x μ1 =>
    cases eb : b σ μ1 with
    | ok y μ2 =>
      cases ep : p x y μ2 with
      | some r =>
        refine .inl ⟨ρ, σ, μ, R, S, ?_⟩
        unfold Za2
        simp only [ea, eb, Rs.bind, por, ep] at h ⊢
        exact h
      | none =>
        refine .inr ⟨ρ, σ, μ, R, S, ?_⟩
        unfold Za2
        simp only [ea, eb, Rs.bind, por, ep] at h ⊢
        exact h
    | exc c w m =>
      refine .inl ⟨ρ, σ, μ, R, S, ?_⟩
      unfold Za2
      simp only [ea, eb, Rs.bind] at h ⊢
      exact h
    | bad =>
      simp only [ea, eb, Rs.bind] at h
      exact h.elim
  | exc c w m =>
    refine .inl ⟨ρ, σ, μ, R, S, ?_⟩
    unfold Za2
    simp only [ea, Rs.bind] at h ⊢
    exact h
  | bad =>
    simp only [ea, Rs.bind] at h
    exact h.elim
noncomputable def pIx : P2 := por pIxQ pIxD
/-! ### slices -/
noncomputable abbrev OM := En → Mem → Rs (Option Int)
noncomputable def o_no : OM := fun _ μ => .ok none μ
noncomputable def Zjr (e : EM) : OM := fun σ μ => (e σ μ).bind fun w μ1 => match w with
  | .int i => .ok (some i) μ1
  | _ => .bad
noncomputable abbrev P3 := W → Option Int → Option Int → Mem → Option (W × Mem)
noncomputable def e_sl (p : P3) (a : EM) (lo hi : OM) : EM := fun σ μ => (a σ μ).bind fun x μ1 => (lo σ μ1).bind fun l μ2 => (hi σ μ2).bind fun u μ3 => lift (p x l u μ3)
noncomputable def cutW (xs : List W) (lo hi : Option Int) : List W := (xs.drop (HT.sIx xs.length 0 lo)).take (HT.sIx xs.length xs.length hi - HT.sIx xs.length 0 lo)
noncomputable def pSlL : P3 := fun x lo hi μ => (getR μ x).map fun xs => (.loc μ.length, μ ++ [.lst (cutW xs lo hi)])
noncomputable def pSlT : P3 := fun x lo hi μ => (getT μ x).map fun xs => if HT.sIx xs.length 0 lo = 0 ∧ HT.sIx xs.length xs.length hi = xs.length then (x, μ) else (.loc μ.length, μ ++ [.tup (cutW xs lo hi)])
noncomputable def pSlS : P3 := fun x lo hi μ => match x with
  | .str z => if z.length ≤ LIM then some (.str (cutS z lo hi), μ) else none
  | _ => none
noncomputable def pSl : P3 := fun x lo hi μ => match pSlL x lo hi μ with
  | some r => some r
  | none => match pSlT x lo hi μ with
    | some r => some r
    | none => pSlS x lo hi μ
theorem cut_rv {ρ : Rho} {ws : List W} {vs : List V} (r : RVs ρ ws vs) (lo hi : Option Int) : RVs ρ (cutW ws lo hi) (cutV vs lo hi) := by
  unfold cutW cutV
  rw [Zeu r]
  exact rvs_take _ (rvs_drop _ r)
theorem sl_at {G : Gt} {ρ : Rho} {μ μ' : Mem} {H : Hp} {x w : W} {v : V} {lo hi : Option Int} {Q : VK} (R : Rel G ρ μ H) (rx : RV ρ x v) (e : pSl x lo hi μ = some (w, μ')) (q : Post G ρ Q w μ') :
    rSlL G.K v lo hi H Q ∨ (rSlA G.K v lo hi H Q ∨ rSlS v lo hi H Q) := by
  unfold pSl at e
  split at e
  · rename_i r er
    cases e
    obtain ⟨xs, e1, e2⟩ := Option.map_eq_some_iff.mp er
    cases e2
    obtain ⟨l, a, vs, _, rfl, _, h1, r1⟩ := Zgv R rx e1
    exact .inl ⟨a, vs, rfl, h1, fun p hp => Zj0 R (cut_rv r1 lo hi) q hp⟩
  · split at e
    · rename_i r er
      cases e
      obtain ⟨xs, e1, e2⟩ := Option.map_eq_some_iff.mp er
      obtain ⟨l, a, vs, _, rfl, _, h1, r1⟩ := Zih R rx e1
      refine .inr (.inl ⟨a, vs, rfl, h1, fun c => ?_, fun c p hp => ?_⟩)
      · rw [← Zeu r1] at c
        rw [if_pos c] at e2
        cases e2
        exact Zjl R rx q
      · rw [← Zeu r1] at c
        rw [if_neg c] at e2
        cases e2
        exact Zl5 R (cut_rv r1 lo hi) q hp
    · unfold pSlS at e
      split at e
      · split at e
        · rename_i hl
          cases e
          exact .inr (.inr ⟨_, rx, Zkd hl, post_str R q⟩)
        · cases e
      · cases e
noncomputable def tO (G : Gt) (fn : Nat → Str) (EX : XK) (f : OM) : L2.St → Hp → (Option Int → Hp → Prop) → Prop := fun τ H Q => ∃ ρ σ μ, Rel G ρ μ H ∧ RS ρ σ τ ∧ wpR (f σ μ) (fun o μ' => ∀ ρ' H', Gr ρ ρ' → Rel G ρ' μ' H' → Q o H') (PostX G fn ρ EX)
section
variable {X : Cx} {G : Gt} {fn : Nat → Str} {EX : XK} {a b : Expr} {fa fb : EM} {lo hi : OM} {pos : Pos} {τ : L2.St} {H : Hp}
theorem vo_no : PO X none (tO G fn EX o_no) := ⟨fun pins s σ H Q I q => po_none.run pins s σ H Q I (by
  obtain ⟨ρ, τ, μ, R, S, h⟩ := q
  exact h ρ H (Gr.refl ρ) R)⟩
theorem Zi7 (ha : PE X a (tE G fn EX fa)) : PO X (some a) (tO G fn EX (Zjr fa)) := ⟨fun pins s σ H Q I q => (po_some ha).run pins s σ H Q I (by
  obtain ⟨ρ, τ, μ, R, S, h⟩ := q
  refine Zc4 (P := fun o μ' => ∀ ρ' H', Gr ρ ρ' → Rel G ρ' μ' H' → Q o H') R S h fun ρ1 x μ1 v H1 g1 R1 S1 rx h => ?_
  split at h
  · rename_i i
    exact ⟨i, rx, h ρ1 H1 g1 R1⟩
  · exact h.elim)⟩
theorem i_sl {Q : VK} (hK : X.K = G.K) (h : tE G fn EX (e_sl pSl fa lo hi) τ H Q) : tSl (fun x l u H Q => rSlL X.K x l u H Q ∨ (rSlA X.K x l u H Q ∨ rSlS x l u H Q)) (tE G fn EX fa) (tO G fn EX lo) (tO G fn EX hi) τ H Q := by
  obtain ⟨ρ, σ, μ, R, S, h⟩ := h
  refine Zc4 R S h fun ρ1 x μ1 v H1 g1 R1 S1 rx h => ?_
  refine ⟨ρ1, σ, μ1, R1, S1, Zbv (wpR_bind.mp h) (fun l μ2 h ρ2 H2 g2 R2 => ?_) fun _ _ _ z => PostX.mono g1 z⟩
  refine ⟨ρ2, σ, μ2, R2, RS.mono g2 S1, Zbv (wpR_bind.mp h) (fun u μ3 h ρ3 H3 g3 R3 => ?_) fun _ _ _ z => PostX.mono (g1.trans g2) z⟩
  obtain ⟨w, m, e, q⟩ := Zmr h
  rw [hK]
  exact sl_at R3 (RV.mono (g2.trans g3) rx) e (Post.mono ((g1.trans g2).trans g3) q)
theorem v_sl {p2 : Pos} {l u : Option Expr} (hK : X.K = G.K) (ha : PE X a (tE G fn EX fa)) (hl : PO X l (tO G fn EX lo)) (hu : PO X u (tO G fn EX hi)) : PE X (.Subscript a (.Slice l u none p2) pos) (tE G fn EX (e_sl pSl fa lo hi)) :=
  PE.imp (pe_slice (.or sl_list (.or sl_tupA sl_str)) ha hl hu) fun _ _ _ h => i_sl hK h
theorem v_ix (hK : X.K = G.K) (hu : X.A.units + 1 < cLine) (ha : PE X a (tE G fn EX fa)) (hb : PE X b (tE G fn EX fb)) (hs : PlainIx b := by intro _ _; rfl) (hn : NoSl b := by intro _ _; rfl) : PE X (.Subscript a b pos) (tE G fn EX (Za2 pIx fa fb)) :=
  PE.imp (PE.or (pe_ix o_ixQ ha hb hs) (pe_dget hu ha hb hn)) fun τ H Q h => by
    rcases bin_or h with h | h
    · rw [hK]
      exact .inl (i_bin ops_ixQ h)
    · exact .inr (i_bin ops_ixD h)
end
end Vs
namespace Vs
open PySem L2

section
variable {G : Gt} {ρ : Rho} {μ : Mem} {H : Hp}
theorem post_wl {Q : VK} {l : Nat} {a : Addr} {xs : List W} {vs : List V} {w : W} {v : V} (R : Rel G ρ μ H) (hl : ρ.ad[l]? = some a) (r : RVs ρ xs vs) (rw_ : RV ρ w v) (q : Post G ρ Q w (μ.set l (.lst xs))) : Q v (upd H a (.lst vs)) :=
  q ρ _ v (Gr.refl ρ) (R.write hl ⟨vs, upd_same, r⟩) rw_
theorem Zg6 {x : W} {vs : List V} (h : RVs ρ [x] vs) : ∃ v, vs = [v] ∧ RV ρ x v := by
  cases h with
  | cons a b =>
    cases b
    exact ⟨_, rfl, a⟩
theorem rvs_two {x y : W} {vs : List V} (h : RVs ρ [x, y] vs) : ∃ v u, vs = [v, u] ∧ RV ρ x v ∧ RV ρ y u := by
  cases h with
  | cons a b =>
    cases b with
    | cons c d =>
      cases d
      exact ⟨_, _, rfl, a, c⟩
end
/-! ### lists of one kind -/
noncomputable def allB : List W → Option (List Bool)
  | [] => some []
  | .bl b :: r => (allB r).map fun l => b :: l
  | _ => none
noncomputable def allI : List W → Option (List Int)
  | [] => some []
  | .int b :: r => (allI r).map fun l => b :: l
  | _ => none
theorem allB_at {ρ : Rho} : ∀ {ws : List W} {vs : List V} {bs : List Bool}, RVs ρ ws vs → allB ws = some bs → vs = bs.map V.bl
  | _, _, _, .nil, e => by
    unfold allB at e
    cases e
    rfl
  | x :: _, _, _, .cons a b, e => by
    cases x with
    | bl c =>
      unfold allB at e
      obtain ⟨l, e1, e2⟩ := Option.map_eq_some_iff.mp e
      subst e2
      rw [allB_at b e1, show _ = V.bl c from a]
      rfl
    | _ => cases e
theorem allI_at {ρ : Rho} : ∀ {ws : List W} {vs : List V} {bs : List Int}, RVs ρ ws vs → allI ws = some bs → vs = bs.map V.int
  | _, _, _, .nil, e => by
    unfold allI at e
    cases e
    rfl
  | x :: _, _, _, .cons a b, e => by
    cases x with
    | int c =>
      unfold allI at e
      obtain ⟨l, e1, e2⟩ := Option.map_eq_some_iff.mp e
      subst e2
      rw [allI_at b e1, show _ = V.int c from a]
      rfl
    | _ => cases e
/-! ### calls of built-ins -/
noncomputable def pLenQ : PN := fun xs μ => match xs with
  | [x] => (seqW μ x).map fun ys => (.int ys.length, μ)
  | _ => none
noncomputable def pLenS : PN := fun xs μ => match xs with
  | [.str z] => if z.length ≤ LIM then some (.int z.length, μ) else none
  | _ => none
noncomputable def pLenD : PN := fun xs μ => match xs with
  | [x] => (getD μ x).map fun ys => (.int ys.length, μ)
  | _ => none
noncomputable def pLen : PN := porN pLenQ (porN pLenS pLenD)
theorem cas_lenQ {G : Gt} : CaS G (fun xs H Q => ∃ p ys, xs = [.ref p] ∧ (SqL G.K H p ys ∨ SqT G.K H p ys) ∧ Q (.int ys.length) H) pLenQ := by
  intro ρ μ H xs w vs μ' Q R r e q
  unfold pLenQ at e
  split at e
  · obtain ⟨ys, e1, e2⟩ := Option.map_eq_some_iff.mp e
    cases e2
    obtain ⟨v, rfl, rv⟩ := Zg6 r
    obtain ⟨a, us, rfl, h1, r1⟩ := seqW_at R rv e1
    exact ⟨a, us, rfl, h1, by rw [← Zeu r1]; exact Ziq R q⟩
  · cases e
theorem cas_lenS {G : Gt} : CaS G (fun xs H Q => ∃ z, xs = [.str z] ∧ z.length ≤ sizeLine ∧ Q (.int z.length) H) pLenS := by
  intro ρ μ H xs w vs μ' Q R r e q
  unfold pLenS at e
  split at e
  · split at e
    · rename_i hl
      cases e
      obtain ⟨v, rfl, rv⟩ := Zg6 r
      rw [show v = _ from rv]
      exact ⟨_, rfl, Zkd hl, Ziq R q⟩
    · cases e
  · cases e
theorem cas_lenD {G : Gt} : CaS G (fun xs H Q => ∃ a kvs, xs = [V.ref a] ∧ H a = some (.dK kvs) ∧ Q (.int kvs.length) H) pLenD := by
  intro ρ μ H xs w vs μ' Q R r e q
  unfold pLenD at e
  split at e
  · obtain ⟨ys, e1, e2⟩ := Option.map_eq_some_iff.mp e
    cases e2
    obtain ⟨v, rfl, rv⟩ := Zg6 r
    obtain ⟨l, a, us, _, rfl, _, _, h1, r1⟩ := Zky R rv e1
    exact ⟨a, us, rfl, h1, by rw [← rk_len r1]; exact Ziq R q⟩
  · cases e
theorem c_len {X : Cx} : CallR X (.builtin "len") (fun xs H Q => (∃ p ys, xs = [.ref p] ∧ (SqL X.K H p ys ∨ SqT X.K H p ys) ∧ Q (.int ys.length) H) ∨ ((∃ z, xs = [.str z] ∧ z.length ≤ sizeLine ∧ Q (.int z.length) H) ∨ ∃ a kvs, xs = [V.ref a] ∧ H a = some (.dK kvs) ∧ Q (.int kvs.length) H)) := .or call_len_seq (.or call_len_str call_lenD)
theorem Zhv {G : Gt} : CaS G (fun xs H Q => (∃ p ys, xs = [.ref p] ∧ (SqL G.K H p ys ∨ SqT G.K H p ys) ∧ Q (.int ys.length) H) ∨ ((∃ z, xs = [.str z] ∧ z.length ≤ sizeLine ∧ Q (.int z.length) H) ∨ ∃ a kvs, xs = [V.ref a] ∧ H a = some (.dK kvs) ∧ Q (.int kvs.length) H)) pLen := CaS.or cas_lenQ (CaS.or cas_lenS cas_lenD)
noncomputable def pListQ : PN := fun xs μ => match xs with
  | [x] => (seqW μ x).map fun ys => (.loc μ.length, μ ++ [.lst ys])
  | _ => none
noncomputable def keyOf : Key → W
  | .inl i => .int i
  | .inr x => .str x
noncomputable def pListD : PN := fun xs μ => match xs with
  | [x] => (getD μ x).map fun ys => (.loc μ.length, μ ++ [.lst (ys.map fun kv => keyOf kv.1)])
  | _ => none
noncomputable def Zh6 : PN := porN pListQ pListD
theorem cas_listQ {G : Gt} : CaS G (fun xs H Q => ∃ p ys, xs = [.ref p] ∧ (SqL G.K H p ys ∨ SqT G.K H p ys) ∧ ∀ l, H l = none → Q (.ref l) (upd H l (.lst ys))) pListQ := by
  intro ρ μ H xs w vs μ' Q R r e q
  unfold pListQ at e
  split at e
  · obtain ⟨ys, e1, e2⟩ := Option.map_eq_some_iff.mp e
    cases e2
    obtain ⟨v, rfl, rv⟩ := Zg6 r
    obtain ⟨a, us, rfl, h1, r1⟩ := seqW_at R rv e1
    exact ⟨a, us, rfl, h1, fun l hl => Zj0 R r1 q hl⟩
  · cases e
theorem keyOf_rv {ρ : Rho} : ∀ k : Key, RV ρ (keyOf k) (kV k)
  | .inl _ => rfl
  | .inr _ => rfl
theorem keys_rv {ρ : Rho} : ∀ {ws : List (Key × W)} {vs : List (Key × V)}, RK ρ ws vs → RVs ρ (ws.map fun kv => keyOf kv.1) (vs.map fun kv => kV kv.1)
  | _, _, .nil => .nil
  | _, _, .cons a b => .cons (by dsimp only; rw [a.1]; exact keyOf_rv _) (keys_rv b)
theorem cas_listD {G : Gt} : CaS G rListD pListD := by
  intro ρ μ H xs w vs μ' Q R r e q
  unfold pListD at e
  split at e
  · obtain ⟨ys, e1, e2⟩ := Option.map_eq_some_iff.mp e
    cases e2
    obtain ⟨v, rfl, rv⟩ := Zg6 r
    obtain ⟨l, a, us, _, rfl, _, _, h1, r1⟩ := Zky R rv e1
    exact ⟨a, us, rfl, h1, fun l hl => Zj0 R (keys_rv r1) q hl⟩
  · cases e
theorem c_list {X : Cx} (hc : X.calm = true) : CallR X (.type "list") (fun xs H Q => (∃ p ys, xs = [.ref p] ∧ (SqL X.K H p ys ∨ SqT X.K H p ys) ∧ ∀ l, H l = none → Q (.ref l) (upd H l (.lst ys))) ∨ rListD xs H Q) := .or call_list_of (call_list_dK hc)
theorem Zju {G : Gt} : CaS G (fun xs H Q => (∃ p ys, xs = [.ref p] ∧ (SqL G.K H p ys ∨ SqT G.K H p ys) ∧ ∀ l, H l = none → Q (.ref l) (upd H l (.lst ys))) ∨ rListD xs H Q) Zh6 := CaS.or cas_listQ cas_listD
noncomputable def pTuple : PN := fun xs μ => match xs with
  | [x] => match getR μ x with
    | some ys => some (.loc μ.length, μ ++ [.tup ys])
    | none => (getT μ x).map fun _ => (x, μ)
  | _ => none
theorem cas_tuple {G : Gt} : CaS G (fun xs H Q => ∃ p ys, xs = [.ref p] ∧ ((SqL G.K H p ys ∧ ∀ l, H l = none → Q (.ref l) (upd H l (.tup ys))) ∨ (SqT G.K H p ys ∧ Q (.ref p) H))) pTuple := by
  intro ρ μ H xs w vs μ' Q R r e q
  unfold pTuple at e
  split at e
  · obtain ⟨v, rfl, rv⟩ := Zg6 r
    split at e
    · rename_i ys e1
      cases e
      obtain ⟨l, a, us, _, rfl, _, h1, r1⟩ := Zgv R rv e1
      exact ⟨a, us, rfl, .inl ⟨h1, fun l hl => Zl5 R r1 q hl⟩⟩
    · obtain ⟨ys, e1, e2⟩ := Option.map_eq_some_iff.mp e
      cases e2
      obtain ⟨l, a, us, _, rfl, _, h1, r1⟩ := Zih R rv e1
      exact ⟨a, us, rfl, .inr ⟨h1, Zjl R rv q⟩⟩
  · cases e
noncomputable def pAll : PN := fun xs μ => match xs with
  | [x] => (getR μ x).bind fun ys => (allB ys).map fun bs => (.bl (bs.all id), μ)
  | _ => none
theorem cas_all {G : Gt} : CaS G (rAll G.K) pAll := by
  intro ρ μ H xs w vs μ' Q R r e q
  unfold pAll at e
  split at e
  · obtain ⟨ys, e1, e2⟩ := Option.bind_eq_some_iff.mp e
    obtain ⟨bs, e3, e4⟩ := Option.map_eq_some_iff.mp e2
    cases e4
    obtain ⟨v, rfl, rv⟩ := Zg6 r
    obtain ⟨l, a, us, _, rfl, _, h1, r1⟩ := Zgv R rv e1
    exact ⟨a, bs, rfl, by rw [← allB_at r1 e3]; exact h1, Zgd R q⟩
  · cases e
noncomputable def pSum : PN := fun xs μ => match xs with
  | [x] => (getR μ x).bind fun ys => (allI ys).map fun bs => (.int bs.sum, μ)
  | _ => none
theorem cas_sum {G : Gt} : CaS G (rSum G.K) pSum := by
  intro ρ μ H xs w vs μ' Q R r e q
  unfold pSum at e
  split at e
  · obtain ⟨ys, e1, e2⟩ := Option.bind_eq_some_iff.mp e
    obtain ⟨bs, e3, e4⟩ := Option.map_eq_some_iff.mp e2
    cases e4
    obtain ⟨v, rfl, rv⟩ := Zg6 r
    obtain ⟨l, a, us, _, rfl, _, h1, r1⟩ := Zgv R rv e1
    exact ⟨a, bs, rfl, by rw [← allI_at r1 e3]; exact h1, Ziq R q⟩
  · cases e
noncomputable def pMax2 : PN := fun xs μ => match xs with
  | [.int i, .int j] => some (.int (if j > i then j else i), μ)
  | _ => none
theorem cas_max2 {G : Gt} : CaS G (fun xs H Q => ∃ i j, xs = [.int i, .int j] ∧ Q (.int (if j > i then j else i)) H) pMax2 := by
  intro ρ μ H xs w vs μ' Q R r e q
  unfold pMax2 at e
  split at e
  · cases e
    obtain ⟨v, u, rfl, rv, ru⟩ := rvs_two r
    exact ⟨_, _, by rw [show v = _ from rv, show u = _ from ru], Ziq R q⟩
  · cases e
noncomputable def maxI : List Int → Int
  | [] => 0
  | [a] => a
  | a :: b :: r => max a (maxI (b :: r))
noncomputable def minI : List Int → Int
  | [] => 0
  | [a] => a
  | a :: b :: r => min a (minI (b :: r))
theorem maxI_spec : ∀ (a : Int) (r : List Int), maxI (a :: r) ∈ a :: r ∧ ∀ y ∈ a :: r, y ≤ maxI (a :: r)
  | a, [] => ⟨List.mem_cons_self, fun y hy => by rw [List.mem_singleton.mp hy]; exact Int.le_refl _⟩
  | a, b :: r => by
    obtain ⟨h1, h2⟩ := maxI_spec b r
    have e : maxI (a :: b :: r) = max a (maxI (b :: r)) := rfl
    rw [e]
    refine ⟨?_, fun y hy => ?_⟩
    · rcases Int.le_total a (maxI (b :: r)) with h | h
      · rw [Int.max_eq_right h]
        exact List.mem_cons_of_mem _ h1
      · rw [Int.max_eq_left h]
        exact List.mem_cons_self
    · rcases List.mem_cons.mp hy with h | h
      · rw [h]
        exact Int.le_max_left _ _
      · exact Int.le_trans (h2 y h) (Int.le_max_right _ _)
noncomputable def pMaxL : PN := fun xs μ => match xs with
  | [x] => (getR μ x).bind fun ys => (allI ys).bind fun bs => if bs = [] then none else some (.int (maxI bs), μ)
  | _ => none
theorem cas_maxL {G : Gt} : CaS G (rMax G.K) pMaxL := by
  intro ρ μ H xs w vs μ' Q R r e q
  unfold pMaxL at e
  split at e
  · obtain ⟨ys, e1, e2⟩ := Option.bind_eq_some_iff.mp e
    obtain ⟨bs, e3, e4⟩ := Option.bind_eq_some_iff.mp e2
    cases bs with
    | nil => rw [if_pos rfl] at e4; cases e4
    | cons a t =>
      rw [if_neg (by simp)] at e4
      cases e4
      obtain ⟨v, rfl, rv⟩ := Zg6 r
      obtain ⟨l, p, us, _, rfl, _, h1, r1⟩ := Zgv R rv e1
      obtain ⟨m1, m2⟩ := maxI_spec a t
      exact ⟨p, a :: t, rfl, by rw [← allI_at r1 e3]; exact h1, Nat.succ_pos _, fun m hm hy => by rw [Int.le_antisymm (m2 m hm) (hy _ m1)]; exact Ziq R q⟩
  · cases e
noncomputable def pMax : PN := porN pMax2 pMaxL
theorem c_max {X : Cx} (hc : X.calm = true) : CallR X (.builtin "max") (fun xs H Q => (∃ i j, xs = [.int i, .int j] ∧ Q (.int (if j > i then j else i)) H) ∨ rMax X.K xs H Q) := .or (call_max2 hc) (cr_max hc)
theorem cas_max {G : Gt} : CaS G (fun xs H Q => (∃ i j, xs = [.int i, .int j] ∧ Q (.int (if j > i then j else i)) H) ∨ rMax G.K xs H Q) pMax := CaS.or cas_max2 cas_maxL
/-! ### isinstance with a built-in class -/
noncomputable def tyW (μ : Mem) : W → Option String
  | .non => some "NoneType"
  | .bl _ => some "bool"
  | .int _ => some "int"
  | .str _ => some "str"
  | .loc l => match μ[l]? with
    | some (.lst _) => some "list"
    | some (.tup _) => some "tuple"
    | some (.dic _) => some "dict"
    | some (.scr _) => some "list"
    | some (.fdic _) => some "dict"
    | _ => none
noncomputable def subT (t T : String) : Bool := decide (t = T) || (decide (t = "bool") && decide (T = "int"))
noncomputable def Zny (T : String) (a : EM) : EM := fun σ μ => (a σ μ).bind fun x μ1 => match tyW μ1 x with
  | some t => .ok (.bl (subT t T)) μ1
  | none => .bad
theorem tyW_at {G : Gt} {ρ : Rho} {μ : Mem} {H : Hp} {x : W} {v : V} {t : String} (R : Rel G ρ μ H) (r : RV ρ x v) (h : tyW μ x = some t) : TyX G.K H v (.type t) := by
  cases x with
  | non => cases h; rw [show v = _ from r]; exact .base .non
  | bl b => cases h; rw [show v = _ from r]; exact .base (.bl b)
  | int b => cases h; rw [show v = _ from r]; exact .base (.int b)
  | str b => cases h; rw [show v = _ from r]; exact .base (.str b)
  | loc l =>
    obtain ⟨a, ea, rfl⟩ := r
    simp only [tyW] at h
    split at h
    · rename_i e
      cases h
      obtain ⟨vs, h1, _⟩ := R.obj l _ a e ea
      exact .base (.lst h1)
    · rename_i e
      cases h
      obtain ⟨vs, h1, _⟩ := R.obj l _ a e ea
      exact .base (.tup h1)
    · rename_i e
      cases h
      obtain ⟨vs, h1, _⟩ := R.obj l _ a e ea
      exact .base (.dK h1)
    · rename_i e
      cases h
      obtain ⟨o, h1⟩ := R.obj l _ a e ea
      exact .base (.frz h1)
    · rename_i e
      cases h
      obtain ⟨o, ks, _, h1, _⟩ := R.obj l _ a e ea
      exact .fDict h1
    · cases h
noncomputable def Kit (T : String) : Prop := ∀ (K : PySem.W.Frag), ∀ t ∈ (["NoneType", "bool", "int", "str", "list", "tuple", "dict"] : List String), PySem.W.kitOne K (.type t) (.type T) = some (subT t T)
theorem tyW_mem {μ : Mem} {x : W} {t : String} (h : tyW μ x = some t) : t ∈ (["NoneType", "bool", "int", "str", "list", "tuple", "dict"] : List String) := by
  cases x with
  | loc l =>
    simp only [tyW] at h
    split at h <;> first | (cases h; done) | (cases h; simp)
  | _ => cases h; simp
theorem v_isT {X : Cx} {G : Gt} {fn : Nat → Str} {EX : XK} {a : Expr} {fa : EM} {x : Str} {T : String} {p pt pos : Pos} (hK : X.K = G.K) (kit : Kit T) (hg : Gl X "isinstance") (hm : X.mg "isinstance" = none) (hgt : Gl X x) (hmt : X.mg x = none) (hv : bootBuiltins x = some (.type T))
    (ha : PE X a (tE G fn EX fa)) (hn : x ≠ "__name__" := by decide) (hd : (x == ("__debug__" : Str)) = false := by decide)
    (he : starEach [a, .Name x pt] X.env = (false, eval a X.env) :: starEach [.Name x pt] X.env := by rfl) (he2 : starEach [.Name x pt] X.env = (false, eval (.Name x pt) X.env) :: starEach [] X.env := by rfl) (hpl : (backTo pos (starEach [.Name x pt] X.env)).any (·.1) = false := by rfl) :
    PE X (.Call (.Name "isinstance" p) [a, .Name x pt] [] pos) (tE G fn EX (Zny T fa)) :=
  PE.imp (pe_callB call_isi hg hm (by decide +kernel) (pa_cons ha (pa_cons (pe_bltn (v := .ty T) hgt hmt hv rfl hn hd) pa_nil he2) he) (by decide) (by decide) he hpl) fun τ H Q h => by
    obtain ⟨ρ, σ, μ, R, S, h⟩ := h
    refine Zc4 R S h fun ρ1 x μ1 v H1 g1 R1 S1 rx h => ?_
    split at h
    · rename_i t e
      exact ⟨v, .ty T, .type t, .type T, subT t T, rfl, .ty T, by rw [hK]; exact tyW_at R1 rx e, kit X.K t (tyW_mem e), h ρ1 H1 _ g1 R1 rfl⟩
    · exact h.elim
theorem kit_int : Kit "int" := fun K t ht => by
  simp only [List.mem_cons, List.not_mem_nil, or_false] at ht
  rcases ht with rfl | rfl | rfl | rfl | rfl | rfl | rfl <;> rfl
theorem kit_bool : Kit "bool" := fun K t ht => by
  simp only [List.mem_cons, List.not_mem_nil, or_false] at ht
  rcases ht with rfl | rfl | rfl | rfl | rfl | rfl | rfl <;> rfl
theorem kit_str : Kit "str" := fun K t ht => by
  simp only [List.mem_cons, List.not_mem_nil, or_false] at ht
  rcases ht with rfl | rfl | rfl | rfl | rfl | rfl | rfl <;> rfl
theorem Zmc : Kit "list" := fun K t ht => by
  simp only [List.mem_cons, List.not_mem_nil, or_false] at ht
  rcases ht with rfl | rfl | rfl | rfl | rfl | rfl | rfl <;> rfl
theorem kit_tuple : Kit "tuple" := fun K t ht => by
  simp only [List.mem_cons, List.not_mem_nil, or_false] at ht
  rcases ht with rfl | rfl | rfl | rfl | rfl | rfl | rfl <;> rfl
end Vs
namespace Vs
open PySem L2

theorem post_wn {G : Gt} {ρ : Rho} {μ : Mem} {H : Hp} {Q : VK} {l : Nat} {a : Addr} {xs : List W} {vs : List V} (R : Rel G ρ μ H) (hl : ρ.ad[l]? = some a) (r : RVs ρ xs vs) (q : Post G ρ Q .non (μ.set l (.lst xs))) : Q .non (upd H a (.lst vs)) := post_wl (w := .non) R hl r rfl q
/-! ### methods of lists and texts -/
noncomputable abbrev PM := W → List W → Mem → Option (W × Mem)
noncomputable def isL (μ : Mem) (w : W) : Bool := (getL μ w).isSome
noncomputable def isS (_ : Mem) : W → Bool
  | .str _ => true
  | _ => false
noncomputable def e_bm (chk : Mem → W → Bool) (op : PM) (o : EM) (a : AM) : EM := fun σ μ => (o σ μ).bind fun x μ1 => if chk μ1 x = true then (a σ μ1).bind fun ws μ2 => lift (op x ws μ2) else .bad
noncomputable def e_bm0 (chk : Mem → W → Bool) (op : PM) (o : EM) : EM := fun σ μ => (o σ μ).bind fun x μ1 => if chk μ1 x = true then lift (op x [] μ1) else .bad
noncomputable def MtS' (G : Gt) (r : V → List V → Hp → VK → Prop) (op : PM) : Prop := ∀ {ρ : Rho} {μ : Mem} {H : Hp} {x : W} {xs : List W} {w : W} {v : V} {vs : List V} {μ' : Mem} {Q : VK}, Rel G ρ μ H → RV ρ x v → RVs ρ xs vs → op x xs μ = some (w, μ') → Post G ρ Q w μ' → r v vs H Q
noncomputable def ChkS (G : Gt) (T : String) (chk : Mem → W → Bool) : Prop := ∀ {ρ : Rho} {μ : Mem} {H : Hp} {x : W} {v : V}, Rel G ρ μ H → RV ρ x v → chk μ x = true → tyV G.K T v H
theorem Zip {G : Gt} : ChkS G "list" isL := by
  intro ρ μ H x v R r h
  obtain ⟨xs, e⟩ := Option.isSome_iff_exists.mp h
  obtain ⟨l, a, vs, _, rfl, _, _, h1, _⟩ := Zkv R r e
  exact .inl ⟨rfl, vs, .of h1⟩
theorem chk_str {G : Gt} : ChkS G "str" isS := by
  intro ρ μ H x v R r h
  cases x with
  | str z => rw [show v = _ from r]; exact rfl
  | _ => cases h
section
variable {G : Gt} {fn : Nat → Str} {EX : XK} {o : EM} {r : AM} {τ : L2.St} {H : Hp} {Q : VK} {T : String} {chk : Mem → W → Bool} {op : PM} {rr : V → List V → Hp → VK → Prop}
theorem i_bm (c : ChkS G T chk) (m : MtS' G rr op) (h : tE G fn EX (e_bm chk op o r) τ H Q) : tBM G.K T rr (tE G fn EX o) (tA G fn EX r) τ H Q := by
  obtain ⟨ρ, σ, μ, R, S, h⟩ := h
  refine Zc4 R S h fun ρ1 x μ1 v H1 g1 R1 S1 rx h => ?_
  split at h
  · rename_i hc
    refine ⟨c R1 rx hc, Zkk R1 S1 (Zbv h (fun _ _ z => z) fun _ _ _ z => PostX.mono g1 z) fun ρ2 y μ2 u H2 g2 R2 S2 ry h => ?_⟩
    obtain ⟨w, mm, e, q⟩ := Zmr h
    exact m R2 (RV.mono g2 rx) ry e (Post.mono (g1.trans g2) q)
  · exact h.elim
theorem i_bm0 (c : ChkS G T chk) (m : MtS' G rr op) (h : tE G fn EX (e_bm0 chk op o) τ H Q) : tBM0 G.K T rr (tE G fn EX o) τ H Q := by
  obtain ⟨ρ, σ, μ, R, S, h⟩ := h
  refine Zc4 R S h fun ρ1 x μ1 v H1 g1 R1 S1 rx h => ?_
  split at h
  · rename_i hc
    obtain ⟨w, mm, e, q⟩ := Zmr h
    exact ⟨c R1 rx hc, m R1 rx .nil e (Post.mono g1 q)⟩
  · exact h.elim
end
noncomputable def Zfc : PM := fun x ws μ => match x, ws, getL μ x with
  | .loc l, [y], some xs => if xs.length < LIM then some (.non, μ.set l (.lst (xs ++ [y]))) else none
  | _, _, _ => none
noncomputable def mClear : PM := fun x ws μ => match x, ws, getL μ x with
  | .loc l, [], some xs => some (.non, μ.set l (.lst []))
  | _, _, _ => none
section
variable {G : Gt}
theorem Zgr : MtS' G rAppend Zfc := by
  intro ρ μ H x xs w v vs μ' Q R rx rxs e q
  unfold Zfc at e
  split at e
  · rename_i l y ys e1
    split at e
    · rename_i hl
      cases e
      obtain ⟨l', a, us, el, rfl, ha, _, h1, r1⟩ := Zkv R rx e1
      cases el
      obtain ⟨u, rfl, ru⟩ := Zg6 rxs
      exact ⟨a, us, u, rfl, rfl, h1, by rw [← Zeu r1]; exact lim_lt hl, post_wn R ha (Zm8 r1 (.cons ru .nil)) q⟩
    · cases e
  · cases e
end
noncomputable def mStr (f : Str → W) : PM := fun x ws μ => match x, ws with
  | .str z, [] => some (f z, μ)
  | _, _ => none
theorem mts_isascii {G : Gt} : MtS' G (fun x xs H Q => ∃ a, x = .str a ∧ xs = [] ∧ True ∧ Q (.bl (Txt.isascii a)) H) (mStr fun z => .bl (Txt.isascii z)) := by
  intro ρ μ H x xs w v vs μ' Q R rx rxs e q
  unfold mStr at e
  split at e
  · cases e
    cases rxs
    exact ⟨_, rx, rfl, trivial, Zgd R q⟩
  · cases e
theorem mts_isalpha {G : Gt} : MtS' G (fun x xs H Q => ∃ a, x = .str a ∧ xs = [] ∧ True ∧ Q (.bl (Txt.isalpha a)) H) (mStr fun z => .bl (Txt.isalpha z)) := by
  intro ρ μ H x xs w v vs μ' Q R rx rxs e q
  unfold mStr at e
  split at e
  · cases e
    cases rxs
    exact ⟨_, rx, rfl, trivial, Zgd R q⟩
  · cases e
theorem mts_islower {G : Gt} : MtS' G (fun x xs H Q => ∃ a, x = .str a ∧ xs = [] ∧ True ∧ Q (.bl (Txt.islower a)) H) (mStr fun z => .bl (Txt.islower z)) := by
  intro ρ μ H x xs w v vs μ' Q R rx rxs e q
  unfold mStr at e
  split at e
  · cases e
    cases rxs
    exact ⟨_, rx, rfl, trivial, Zgd R q⟩
  · cases e
/-- n.bit_length() -/
noncomputable def e_bits (a : EM) : EM := fun σ μ => (a σ μ).bind fun x μ1 => match x with
  | .int i => .ok (.int (Builtin.Int.intBits i : Nat)) μ1
  | _ => .bad

/-! ### stores -/
noncomputable def setIw (w x y : W) (μ : Mem) : Option Mem := match x with
  | .loc l => match y with
    | .int k => (getL μ x).bind fun xs => (ixN xs.length k).map fun j => μ.set l (.lst (xs.set j w))
    | _ => none
  | _ => none
noncomputable def s_st (f : W → W → W → Mem → Option Mem) (e o i : EM) : SM := fun σ μ => (e σ μ).bind fun w μ1 => (o σ μ1).bind fun x μ2 => (i σ μ2).bind fun y μ3 => match f w x y μ3 with
  | some m => .ok (.nx σ) m
  | none => .bad
/-- xs[i] = e: the value first -/
noncomputable def s_setI (e o i : EM) : SM := s_st setIw e o i
section
variable {G : Gt} {fn : Nat → Str} {EX : XK} {e o i : EM} {D : Ends} {τ : L2.St} {H : Hp}
theorem i_setI (h : tS G fn EX (s_setI e o i) D τ H) : tAsg (tE G fn EX e) (gSub (tE G fn EX o) (tE G fn EX i) rSetL) D τ H := by
  obtain ⟨ρ, σ, μ, R, S, h⟩ := h
  refine Zc4 R S h fun ρ1 w μ1 v H1 g1 R1 S1 rw_ h => ?_
  refine Zc4 R1 S1 (Zbv h (fun _ _ z => z) fun _ _ _ z => PostX.mono g1 z) fun ρ2 x μ2 u H2 g2 R2 S2 rx h => ?_
  refine Zc4 R2 S2 (Zbv h (fun _ _ z => z) fun _ _ _ z => PostX.mono g2 z) fun ρ3 y μ3 t H3 g3 R3 S3 ry h => ?_
  split at h
  · rename_i m em
    cases x with
    | loc l =>
      cases y with
      | int k =>
        obtain ⟨xs, e1, e2⟩ := Option.bind_eq_some_iff.mp em
        obtain ⟨j, ej, e3⟩ := Option.map_eq_some_iff.mp e2
        subst e3
        obtain ⟨l', a, us, el, rfl, ha, _, h1, r1⟩ := Zkv R3 (RV.mono g3 rx) e1
        cases el
        exact ⟨a, us, k, j, rfl, ry, h1, by rw [← Zeu r1]; exact ej, h ρ3 _ ((g1.trans g2).trans g3) (R3.write ha ⟨_, upd_same, rvs_set (RV.mono (g2.trans g3) rw_) j r1⟩) τ S3⟩
      | _ => cases em
    | _ => cases em
  · exact h.elim
end

/-! ### the rules of statements -/
section
variable {X : Cx} {G : Gt} {fn : Nat → Str} {EX : XK} {a b c : Expr} {es : List Expr} {fa fb fc : EM} {r : AM} {t : TM} {d q : SM} {g : GM} {gs : GMs} {st : Stmt} {rest sts sts2 : List Stmt} {pos : Pos}
theorem Zga : PSs X [] (tS G fn EX Ze4) := PSs.imp pss_nil fun _ _ _ h => i_skip h
theorem Zdc (h : PS X st (tS G fn EX d)) : PSs X [st] (tS G fn EX d) := pss_one h
theorem Za1 (h : PS X st (tS G fn EX d)) (k : PSs X rest (tS G fn EX q)) : PSs X (st :: rest) (tS G fn EX (Zcg d q)) := PSs.imp (pss_cons h k) fun _ _ _ h => i_seq h
theorem vg_n (i : Nat) {x : Str} {pos : Pos} (hN : X.N.Nodup) (hi : X.N[i]? = some x := by rfl) (hx : Loc X.env.scope x := by first | exact Or.inl rfl | exact Or.inr rfl) (hf : X.fn x = true ∨ X.env.scope.names.lookup x = some .local := by first | exact .inl rfl | exact .inr rfl) : PG X (.Name x pos) (tG G (g_n i)) := PG.imp (pg_name hN hi hx hf) fun _ _ _ _ h => i_gn h
theorem Zef (i : Nat) {x : Str} {p : Pos} (hN : X.N.Nodup) (he : PE X a (tE G fn EX fa)) (hi : X.N[i]? = some x := by rfl) (hx : Loc X.env.scope x := by first | exact Or.inl rfl | exact Or.inr rfl) (hs : swapsWith a (some (.Name x p)) pos.line X.env = pure false := by rfl) (hf : X.fn x = true ∨ X.env.scope.names.lookup x = some .local := by first | exact .inl rfl | exact .inr rfl) :
    PS X (.Assign [.Name x p] a pos) (tS G fn EX (Zes fa (g_n i))) := PS.imp (ps_set hN hi hx he hs hf) fun D τ H h => by
  obtain ⟨ρ, σ, μ, R, S, h⟩ := h
  exact Zc4 R S h fun ρ1 w μ1 v H1 g1 R1 S1 r1 h => h ρ1 H1 g1 R1 _ (Zhl (w := some w) (v := some v) r1 i S1)
theorem Zee (he : PE X a (tE G fn EX fa)) : PS X (.Return (some a) pos) (tS G fn EX (Zet fa)) := PS.imp (ps_ret he) fun _ _ _ h => i_ret h
theorem Zif (hc : PT X c (tT G fn EX t)) (ha : PSs X sts (tS G fn EX d)) (hb : PSs X sts2 (tS G fn EX q)) : PS X (.If c sts sts2 pos) (tS G fn EX (s_if t d q)) := PS.imp (ps_if hc ha hb) fun _ _ _ h => i_sif h
theorem vs_ex (he : PE X a (tE G fn EX fa)) (hs : swapsWith a none pos.line X.env = pure false := by rfl) : PS X (.Expr a pos) (tS G fn EX (s_ex fa)) := PS.imp (ps_expr he hs) fun _ _ _ h => i_ex h
theorem vs_never : PS X st (tS G fn EX Zku) := PS.imp ps_never fun _ _ _ h => by
  obtain ⟨ρ, σ, μ, R, S, h⟩ := h
  exact h.elim
theorem vs_setI {o i : Expr} {p : Pos} (he : PE X a (tE G fn EX fa)) (ho : PE X o (tE G fn EX fb)) (hi : PE X i (tE G fn EX fc)) (hs : swapsWithSole [.Subscript o i p] a pos.line X.env = pure false := by rfl) (hw : swappedStores [.Subscript o i p] a X.env = pure none := by rfl) (h1 : (assignEach [.Subscript o i p] X.env).map (·.2) = [assign (.Subscript o i p) X.env] := by rfl)
    (ha : ∀ v, assign (.Subscript o i p) X.env v = (do
      let ov ← holding [v] (eval o X.env)
      let iv ← holding [v, ov] (eval i X.env)
      standAt p
      holding [v, ov, iv] (setItem ov iv v)
      release [v, ov, iv] []) := by intro _; rfl) : PS X (.Assign [.Subscript o i p] a pos) (tS G fn EX (s_setI fa fb fc)) := PS.imp (ps_asg he (pg_sub ho hi set_list ha) hs hw h1) fun _ _ _ h => i_setI h
theorem v_bm {o e : Expr} {name : Str} {ap cp : Pos} {T id : String} {chk : Mem → W → Bool} {op : PM} {rr : V → List V → Hp → VK → Prop} (hK : X.K = G.K) (pa : PlainAttrs T) (slot : Slot T name id) (hty : typeOf (.builtin id) = pure (.type "method_descriptor")) (hm : MtR X id rr) (ck : ChkS G T chk) (m : MtS' G rr op) (ho : PE X o (tE G fn EX fa)) (ha : PA X (e :: es) (tA G fn EX r))
    (hbase : attributeBase o name X.env (eval o X.env) = eval o X.env := by rfl) (hfew : ((backTo cp (starEach (e :: es) X.env)).all (fun x => !x.1) && (backToKw cp (keywordEach [] X.env)).all (fun x => x.1.isSome) && decide ((e :: es).length + ([] : List Keyword).length + (if ([] : List Keyword).isEmpty then 0 else 1) < 30)) = true := by rfl) (hst : starEach (e :: es) X.env = (false, eval e X.env) :: starEach es X.env := by rfl) (hpl : (backTo cp (starEach es X.env)).any (·.1) = false := by rfl) (hline : (ap.endLine == cp.line) = true := by rfl) : PE X (.Call (.Attribute o name ap) (e :: es) [] cp) (tE G fn EX (e_bm chk op fa r)) := PE.imp (pe_bm pa slot hty hm ho ha hbase hfew hline hst hpl) fun _ _ _ h => by
  rw [hK]
  exact i_bm ck m h
theorem v_bm0 {o : Expr} {name : Str} {ap cp : Pos} {T id : String} {chk : Mem → W → Bool} {op : PM} {rr : V → List V → Hp → VK → Prop} (hK : X.K = G.K) (pa : PlainAttrs T) (slot : Slot T name id) (hty : typeOf (.builtin id) = pure (.type "method_descriptor")) (hm : MtR X id rr) (ck : ChkS G T chk) (m : MtS' G rr op) (ho : PE X o (tE G fn EX fa))
    (hbase : attributeBase o name X.env (eval o X.env) = eval o X.env := by rfl) (hline : (ap.endLine == cp.line) = true := by rfl) : PE X (.Call (.Attribute o name ap) [] [] cp) (tE G fn EX (e_bm0 chk op fa)) := PE.imp (pe_bm0 pa slot hty hm ho hbase hline) fun _ _ _ h => by
  rw [hK]
  exact i_bm0 ck m h
end
/-! ### a def -/
noncomputable def fnOf (k : Nat) (b : SM) : Fn := fun ws μ => (b (ws.map some ++ List.replicate (k - ws.length) none) μ).bind fun f μ1 => match f with
  | .rt w => .ok w μ1
  | .nx _ => .ok .non μ1
  | _ => .bad
theorem rs_start {ρ : Rho} {k : Nat} : ∀ {ws : List W} {vs : List V}, RVs ρ ws vs → RS ρ (ws.map some ++ List.replicate (k - ws.length) none) (vs.map some ++ List.replicate (k - vs.length) none) := fun {ws vs} h => by
  rw [Zeu h]
  have none_all : ∀ n : Nat, RS ρ (List.replicate n none) (List.replicate n none) := fun n => by
    induction n with
    | zero => exact .nil
    | succ n ih => exact .cons trivial ih
  have key : ∀ {ws : List W} {vs : List V} {a : En} {b : L2.St}, RVs ρ ws vs → RS ρ a b → RS ρ (ws.map some ++ a) (vs.map some ++ b) := by
    intro ws vs a b h q
    induction h with
    | nil => exact q
    | cons r t ih => exact .cons r ih
  exact key h (none_all _)
theorem Zbu {X : Cx} {E : XK} : Passes CX0 X E := fun _ _ _ _ _ _ _ h => h.elim
section
variable {P : Program} {w : World} {K : PySem.W.Frag} {mg : Str → Option Value} {base : Heap} {G : Gt} {fn : Nat → Str}
theorem Zg1 {x qual : Str} {st : Stmt} {f : Addr} {fd : FuncData} {N ps : List Str} {k n : Nat} {b : SM} (hn : ps.length = n) (F : Fun K x qual st f fd) (S : FnScope N ps (defScope st))
    (h : ∀ (cdv : Value) (A : Around) (outer : List Env) (s : Shared) (H : Hp) (E : XK), Room k (A.deeper (PyProof.Rows.envOfC qual (defScope st) s.heap.objs.size f cdv)) → PSs (cxOf CX0 P w K mg base N qual (defScope st) f cdv A outer s H E).nox (defBody st) (tS G fn E b)) :
    FnOk P w K mg base CX0 (k + 1) f fd ps (spF G fn n (fnOf N.length b)) := by
  refine F.ok S (fun vs H Q E z => ?_) (fun cdv A outer s H vs Q E hr z => ?_)
  · obtain ⟨ρ, μ, ws, _, r, hl, _⟩ := z
    rw [← Zeu r, hl, hn]
  · obtain ⟨ρ, μ, ws, R, r, hl, hw⟩ := z
    refine ⟨_, h cdv A outer s H E hr, ρ, _, μ, R, rs_start r, Zbv (wpR_bind.mp hw) (fun f μ1 hk ρ1 H1 g1 R1 => ?_) fun _ _ _ z => z⟩
    cases f with
    | nx σ => exact fun τ S1 => hk ρ1 H1 .non g1 R1 rfl
    | rt w => exact fun v r1 => hk ρ1 H1 v g1 R1 r1
    | bk σ => exact hk.elim
    | ct σ => exact hk.elim
end
end Vs
namespace Vs
open PySem L2

/-! ### what is walked: its items as they were met, how it is looked at each time, whether a turn makes a pair -/
structure ItD where
  xs : List W
  chk : Mem → Bool
  pr : Bool
noncomputable abbrev IM := En → Mem → Rs ItD
noncomputable def itm (it : ItD) (i : Nat) (w : W) (μ : Mem) : W × Mem := if it.pr = true then (.loc μ.length, μ ++ [.tup [.int (i : Nat), w]]) else (w, μ)
noncomputable def ItOk (G : Gt) (ρ : Rho) (it : ItD) (J : It) : Prop := ∀ (ρ2 : Rho) (μ : Mem) (H : Hp), Gr ρ ρ2 → Rel G ρ2 μ H → it.chk μ = true →
  (∀ i, i < it.xs.length → J.go i H) ∧ J.stop it.xs.length H ∧ ∀ i x H', i < it.xs.length → J.yld i H x H' → ∃ w, it.xs[i]? = some w ∧
    ((it.pr = true ∧ ∃ p v, x = .ref p ∧ H p = none ∧ H' = upd H p (.tup [.int (i : Nat), v]) ∧ RV ρ2 w v) ∨ (it.pr = false ∧ H' = H ∧ RV ρ2 w x))
noncomputable def tI (G : Gt) (fn : Nat → Str) (EX : XK) (I : IM) : TI := fun τ H R => ∃ ρ σ μ, Rel G ρ μ H ∧ RS ρ σ τ ∧ wpR (I σ μ) (fun it μ1 => ∀ ρ' H', Gr ρ ρ' → Rel G ρ' μ1 H' → ∀ J, ItOk G ρ' it J → R J H') (PostX G fn ρ EX)
noncomputable def chkL (w : W) (xs : List W) (μ : Mem) : Bool := decide (getR μ w = some xs)
noncomputable def chkT (w : W) (xs : List W) (μ : Mem) : Bool := decide (getT μ w = some xs)
noncomputable def chk0 (_ : Mem) : Bool := true
/-- a list or a tuple -/
noncomputable def Zhd (e : EM) : IM := fun σ μ => (e σ μ).bind fun w μ1 => match getR μ1 w with
  | some xs => .ok ⟨xs, chkL w xs, false⟩ μ1
  | none => match getT μ1 w with
    | some xs => .ok ⟨xs, chkT w xs, false⟩ μ1
    | none => .bad
noncomputable def ranI (lo : Int) (n : Nat) : List W := (List.range n).map fun i => .int (lo + (i : Nat))
noncomputable def cRng (j : Int) : Bool := decide (-(2 ^ 62) ≤ j ∧ j < 2 ^ 62)
noncomputable def n_rng (e : EM) : IM := fun σ μ => (e σ μ).bind fun w μ1 => match w with
  | .int j => if cRng j = true then .ok ⟨ranI 0 j.toNat, chk0, false⟩ μ1 else .bad
  | _ => .bad
/-- a text, sign by sign -/
noncomputable def n_str (e : EM) : IM := fun σ μ => (e σ μ).bind fun w μ1 => match w with
  | .str z => .ok ⟨z.cps.toList.map fun c => .str ⟨#[c]⟩, chk0, false⟩ μ1
  | _ => .bad
theorem ranI_at {lo : Int} {n i : Nat} (h : i < n) : (ranI lo n)[i]? = some (.int (lo + (i : Nat))) := by
  unfold ranI
  rw [List.getElem?_map, List.getElem?_range h]
  rfl
section
variable {G : Gt} {fn : Nat → Str} {EX : XK} {e : EM} {τ : L2.St} {H : Hp} {R : It → Hp → Prop} {ρ : Rho}
theorem ok_list {l : Nat} {a : Addr} {xs : List W} (el : ρ.ad[l]? = some a) : ItOk G ρ ⟨xs, chkL (.loc l) xs, false⟩ (Itl G.K a) := by
  intro ρ2 μ H g R hc
  obtain ⟨l', a', vs, e1, e2, e3, hq, rv⟩ := Zgv R (w := .loc l) (v := .ref a) ⟨a, g.1 _ _ el, rfl⟩ (of_decide_eq_true hc)
  cases e1
  cases e2
  refine ⟨fun i hi => ?_, ⟨vs, hq, by rw [← Zeu rv]; exact Nat.le_refl _⟩, fun i x H' hi y => ?_⟩
  · obtain ⟨v, hv, _⟩ := Zkt rv (List.getElem?_eq_getElem hi)
    exact ⟨vs, v, hq, hv⟩
  · obtain ⟨eH, hx⟩ := y
    obtain ⟨v, hv, rx⟩ := Zkt rv (List.getElem?_eq_getElem hi)
    have := hx vs hq
    rw [hv] at this
    cases this
    exact ⟨_, List.getElem?_eq_getElem hi, .inr ⟨rfl, eH, rx⟩⟩
theorem ok_tup {l : Nat} {a : Addr} {xs : List W} (el : ρ.ad[l]? = some a) : ItOk G ρ ⟨xs, chkT (.loc l) xs, false⟩ (Itt G.K a) := by
  intro ρ2 μ H g R hc
  obtain ⟨l', a', vs, e1, e2, e3, hq, rv⟩ := Zih R (w := .loc l) (v := .ref a) ⟨a, g.1 _ _ el, rfl⟩ (of_decide_eq_true hc)
  cases e1
  cases e2
  refine ⟨fun i hi => ?_, ⟨vs, hq, by rw [← Zeu rv]; exact Nat.le_refl _⟩, fun i x H' hi y => ?_⟩
  · obtain ⟨v, hv, _⟩ := Zkt rv (List.getElem?_eq_getElem hi)
    exact ⟨vs, v, hq, hv⟩
  · obtain ⟨eH, hx⟩ := y
    obtain ⟨v, hv, rx⟩ := Zkt rv (List.getElem?_eq_getElem hi)
    have := hx vs hq
    rw [hv] at this
    cases this
    exact ⟨_, List.getElem?_eq_getElem hi, .inr ⟨rfl, eH, rx⟩⟩
theorem ok_rng {lo : Int} {n : Nat} : ItOk G ρ ⟨ranI lo n, chk0, false⟩ (Itr lo n) := by
  intro ρ2 μ H g R hc
  have hl : (ranI lo n).length = n := by simp [ranI]
  refine ⟨fun i hi => ?_, ?_, fun i x H' hi y => ?_⟩
  · rw [hl] at hi
    exact hi
  · show n ≤ (ranI lo n).length
    rw [hl]
    exact Nat.le_refl _
  · rw [hl] at hi
    obtain ⟨eH, hx⟩ := y
    exact ⟨_, ranI_at hi, .inr ⟨rfl, eH, hx⟩⟩
end
section
variable {X : Cx} {G : Gt} {fn : Nat → Str} {EX : XK} {a tg : Expr} {fa : EM} {pos : Pos}
theorem PI.imp {X : Cx} {tg e : Expr} {t t' : TI} (h : PI X tg e t) (i : ∀ τ H Q, t' τ H Q → t τ H Q) : PI X tg e t' := ⟨fun pins s σ H Q I q => h.run pins s σ H Q I (i σ H Q q)⟩
theorem PI.or {X : Cx} {tg e : Expr} {t t' : TI} (h : PI X tg e t) (h' : PI X tg e t') : PI X tg e (fun τ H Q => t τ H Q ∨ t' τ H Q) := ⟨fun pins s σ H Q I q => q.elim (h.run pins s σ H Q I) (h'.run pins s σ H Q I)⟩
theorem Zkf (hK : X.K = G.K) (he : PE X a (tE G fn EX fa)) : PI X tg a (tI G fn EX (Zhd fa)) := PI.imp (PI.or (pi_list he) (pi_tup he)) fun τ H Q h => by
  obtain ⟨ρ, σ, μ, R, S, h⟩ := h
  have hh := h
  unfold Zhd at hh
  cases ea : fa σ μ with
  | ok w m =>
    rw [ea] at hh
    simp only [Rs.bind] at hh
    cases el : getR m w with
    | some xs =>
      refine .inl ⟨ρ, σ, μ, R, S, ?_⟩
      rw [ea]
      rw [el] at hh
      intro ρ1 H1 v g1 R1 r1
      obtain ⟨l, p, vs, rfl, rfl, e1, hq, rv⟩ := Zgv R1 r1 el
      exact ⟨p, rfl, ⟨vs, by rw [hK]; exact hq⟩, hh ρ1 H1 g1 R1 _ (by rw [hK]; exact ok_list e1)⟩
    | none =>
      refine .inr ⟨ρ, σ, μ, R, S, ?_⟩
      rw [ea]
      rw [el] at hh
      simp only at hh
      split at hh
      · rename_i xs et
        intro ρ1 H1 v g1 R1 r1
        obtain ⟨l, p, vs, rfl, rfl, e1, hq, rv⟩ := Zih R1 r1 et
        exact ⟨p, rfl, ⟨vs, by rw [hK]; exact hq⟩, hh ρ1 H1 g1 R1 _ (by rw [hK]; exact ok_tup e1)⟩
      · exact hh.elim
  | exc c w m =>
    rw [ea] at hh
    refine .inl ⟨ρ, σ, μ, R, S, ?_⟩
    rw [ea]
    exact hh
  | bad =>
    rw [ea] at hh
    exact hh.elim
theorem Zmo {p : Pos} (hg : Gl X "range") (hm : X.mg "range" = none) (he : PE X a (tE G fn EX fa)) (hs : starEach [a] X.env = [(false, eval a X.env)] := by rfl) (hs' : starEach [a] X.env = (false, eval a X.env) :: starEach [] X.env := by rfl) : PI X tg (.Call (.Name "range" p) [a] [] pos) (tI G fn EX (n_rng fa)) := PI.imp (pi_range1 hg hm (pa_cons he pa_nil hs') hs) fun τ H Q h => by
  obtain ⟨ρ, σ, μ, R, S, h⟩ := h
  refine Zc4 (P := fun it μ1 => ∀ ρ' H', Gr ρ ρ' → Rel G ρ' μ1 H' → ∀ J, ItOk G ρ' it J → Q J H') R S h fun ρ1 w μ1 v H1 g1 R1 S1 r1 h => ?_
  split at h
  · rename_i j
    split at h
    · rename_i hc
      have hc' := of_decide_eq_true hc
      exact ⟨j, by rw [show v = _ from r1], hc'.1, hc'.2, h ρ1 H1 g1 R1 _ ok_rng⟩
    · exact h.elim
  · exact h.elim
end

/-! ### for -/
noncomputable def forI (it : ItD) (g : GM) (b : SM) : Nat → List W → SM
  | _, [] => fun σ μ => if it.chk μ = true then .ok (.nx σ) μ else .bad
  | i, w :: r => fun σ μ => if it.chk μ = true then (match g (itm it i w μ).1 σ (itm it i w μ).2 with
    | some σ1 => (b σ1 (itm it i w μ).2).bind (turn (forI it g b (i + 1) r))
    | none => .bad) else .bad
noncomputable def Ziu (I : IM) (g : GM) (b : SM) : SM := fun σ μ => (I σ μ).bind fun it μ1 => forI it g b 0 it.xs σ μ1
section
variable {G : Gt} {fn : Nat → Str} {EX : XK} {I : IM} {b : SM} {g : GM} {D : Ends} {τ : L2.St} {H : Hp}
theorem forI_chk {it : ItD} {i : Nat} {xs : List W} {σ : En} {μ : Mem} {P : Fl → Mem → Prop} {E : Nat → W → Mem → Prop} (h : wpR (forI it g b i xs σ μ) P E) : it.chk μ = true := by
  cases xs with
  | nil =>
    unfold forI at h
    split at h
    · assumption
    · exact h.elim
  | cons x r =>
    unfold forI at h
    split at h
    · assumption
    · exact h.elim
/-- an item has come -/
theorem itm_at {it : ItD} {ρ : Rho} {μ : Mem} {i : Nat} {x : V} {w : W} {H' : Hp} (R : Rel G ρ μ H) (y : (it.pr = true ∧ ∃ p v, x = .ref p ∧ H p = none ∧ H' = upd H p (.tup [.int (i : Nat), v]) ∧ RV ρ w v) ∨ (it.pr = false ∧ H' = H ∧ RV ρ w x)) :
    ∃ ρ', Gr ρ ρ' ∧ Rel G ρ' (itm it i w μ).2 H' ∧ RV ρ' (itm it i w μ).1 x := by
  rcases y with ⟨h, p, v, rfl, hp, rfl, r⟩ | ⟨h, rfl, r⟩
  · unfold itm
    rw [if_pos h]
    exact ⟨ρ.push p, Gr.snoc ρ p, R.new hp fun ρ' g => ⟨_, upd_same, .cons rfl (.cons (RV.mono g r) .nil)⟩, Zie R p⟩
  · unfold itm
    rw [h]
    exact ⟨ρ, Gr.refl ρ, R, r⟩
theorem i_for (h : tS G fn EX (Ziu I g b) D τ H) : tFor (tI G fn EX I) (tG G g) (tS G fn EX b) D τ H := by
  obtain ⟨ρ, σ, μ, R, S, h⟩ := h
  refine ⟨ρ, σ, μ, R, S, Zbv (wpR_bind.mp h) (fun it μ1 h ρ1 H1 g1 R1 J ok => ?_) fun _ _ _ x => x⟩
  refine ⟨fun i m τ H => m = it.xs.length - i ∧ i ≤ it.xs.length ∧ ∃ ρ σ μ, Gr ρ1 ρ ∧ Rel G ρ μ H ∧ RS ρ σ τ ∧ wpR (forI it g b i (it.xs.drop i) σ μ) (PostS G ρ D) (PostX G fn ρ EX), ⟨_, rfl, Nat.zero_le _, ρ1, σ, μ1, Gr.refl _, R1, RS.mono g1 S, wpS_mono g1 h⟩, ?_⟩
  rintro i m τ H ⟨rfl, hi, ρ2, σ, μ, g2, R2, S2, h⟩
  obtain ⟨k1, k2, k3⟩ := ok ρ2 μ H g2 R2 (forI_chk h)
  by_cases hlt : i < it.xs.length
  · refine .inr ⟨k1 i hlt, fun τ H => ∃ ρ σ μ, Gr ρ1 ρ ∧ Rel G ρ μ H ∧ RS ρ σ τ ∧ wpR (forI it g b (i + 1) (it.xs.drop (i + 1)) σ μ) (PostS G ρ D) (PostX G fn ρ EX), fun τ' H' z => ⟨_, ?_, rfl, hlt, z⟩, fun x H' y => ?_⟩
    · omega
    · obtain ⟨w, hw, y⟩ := k3 i x H' hlt y
      rw [drop_cons hw] at h
      unfold forI at h
      split at h
      · obtain ⟨ρ3, g3, R3, r3⟩ := itm_at (it := it) R2 y
        split at h
        · rename_i σ1 e
          exact ⟨ρ3, σ, _, _, σ1, R3, RS.mono g3 S2, r3, e, fun τ1 S3 => turn_ends R3 S3 (wpS_mono g3 h) fun ρ4 σ4 μ4 τ4 H4 g4 R4 S4 h4 => ⟨ρ4, σ4, μ4, (g2.trans g3).trans g4, R4, S4, h4⟩⟩
        · exact h.elim
      · exact h.elim
  · have e : i = it.xs.length := by omega
    subst e
    rw [List.drop_length] at h
    unfold forI at h
    split at h
    · exact .inl ⟨k2, h ρ2 H (Gr.refl _) R2 τ S2⟩
    · exact h.elim
end

/-! ### comprehensions -/
noncomputable def wipW (σ : En) : List Nat → En
  | [] => σ
  | v :: vs => (wipW σ vs).set v none
theorem rs_wipe {ρ : Rho} {σ : En} {τ : L2.St} (S : RS ρ σ τ) : ∀ vs, RS ρ (wipW σ vs) (wipe τ vs)
  | [] => S
  | v :: vs => Zhl (w := none) (v := none) trivial v (rs_wipe S vs)
/-- d: where the new list stands -/
noncomputable def Zhp (it : ItD) (g : GM) (t : TM) (e : EM) (σ : En) (d : Nat) : Nat → List W → Mem → Rs W
  | _, [] => fun μ => if it.chk μ = true then .ok (.loc d) μ else .bad
  | i, w :: r => fun μ => if it.chk μ = true then (match g (itm it i w μ).1 σ (itm it i w μ).2 with
    | some σ1 => (t σ1 (itm it i w μ).2).bind fun c μ1 => if c = true then ((e σ1 μ1).bind fun y μ2 => match getL μ2 (.loc d) with
        | some acc => if acc.length < LIM then Zhp it g t e σ d (i + 1) r (μ2.set d (.lst (acc ++ [y]))) else .bad
        | none => .bad) else Zhp it g t e σ d (i + 1) r μ1
    | none => .bad) else .bad
noncomputable def e_lc (I : IM) (g : GM) (t : TM) (e : EM) (vs : List Nat) : EM := fun σ μ => (I σ μ).bind fun it μ1 => Zhp it g t e (wipW σ vs) μ1.length 0 it.xs (μ1 ++ [.lst []])
noncomputable def Zj6 : TM := fun _ μ => .ok true μ
end Vs
namespace Vs
open PySem L2

/-! ### the targets of comprehensions: only their own slots change -/
noncomputable def tGv (G : Gt) (vs : List Nat) (g : GM) : TG := fun v τ H Q => ∃ ρ σ μ w σ', Rel G ρ μ H ∧ RS ρ σ τ ∧ RV ρ w v ∧ g w σ μ = some σ' ∧ ∀ τ', RS ρ σ' τ' → wipe τ' vs = wipe τ vs → Q τ' H
theorem wipe_out {τ : L2.St} {i : Nat} {x : Option V} : ∀ {vs : List Nat}, i ∉ vs → wipe (τ.set i x) vs = (wipe τ vs).set i x
  | [], _ => rfl
  | v :: vs, h => by
    have h1 : i ≠ v := fun e => h (e ▸ List.mem_cons_self)
    show (wipe (τ.set i x) vs).set v none = ((wipe τ vs).set v none).set i x
    rw [wipe_out fun m => h (List.mem_cons_of_mem _ m), List.set_comm _ _ h1]
theorem wipe_in {τ : L2.St} {i : Nat} {x : Option V} : ∀ {vs : List Nat}, i ∈ vs → wipe (τ.set i x) vs = wipe τ vs
  | v :: vs, h => by
    show (wipe (τ.set i x) vs).set v none = (wipe τ vs).set v none
    by_cases hi : i ∈ vs
    · rw [wipe_in hi]
    · rcases List.mem_cons.mp h with e | e
      · subst e
        rw [wipe_out hi, List.set_set]
      · exact absurd e hi
theorem wipe_wipe {τ : L2.St} {vs : List Nat} : wipe (wipe τ vs) vs = wipe τ vs := by
  have key : ∀ us : List Nat, (∀ u ∈ us, u ∈ vs) → wipe (wipe τ us) vs = wipe τ vs := fun us => by
    induction us with
    | nil => intro _; rfl
    | cons u us ih =>
      intro h
      show wipe ((wipe τ us).set u none) vs = wipe τ vs
      rw [wipe_in (h u List.mem_cons_self), ih fun z hz => h z (List.mem_cons_of_mem _ hz)]
  exact key vs fun u h => h
section
variable {X : Cx} {G : Gt} {fn : Nat → Str} {EX : XK} {a : Expr} {es : List Expr} {g : GM} {gs : GMs} {vs : List Nat} {pos : Pos}
theorem cg_n (i : Nat) {x : Str} (hN : X.N.Nodup) (hi : X.N[i]? = some x := by rfl) (hv : i ∈ vs := by decide) (hx : Loc X.env.scope x := by first | exact Or.inl rfl | exact Or.inr rfl) (hf : X.fn x = true ∨ X.env.scope.names.lookup x = some .local := by first | exact .inl rfl | exact .inr rfl) : PG X (.Name x pos) (tGv G vs (g_n i)) := PG.imp (pg_name hN hi hx hf) fun v τ H Q h => by
  obtain ⟨ρ, σ, μ, w, σ', R, S, r, e, q⟩ := h
  cases e
  exact q _ (Zhl (w := some w) (v := some v) r i S) (wipe_in hv)
end
section
variable {G : Gt} {fn : Nat → Str} {EX : XK} {I : IM} {g : GM} {t : TM} {e k : EM} {vs : List Nat} {τ : L2.St} {H : Hp} {Q : VK} {tt : TT}
theorem compL_chk {it : ItD} {σ : En} {d i : Nat} {xs : List W} {μ : Mem} {P : W → Mem → Prop} {E : Nat → W → Mem → Prop} (h : wpR (Zhp it g t e σ d i xs μ) P E) : it.chk μ = true := by
  cases xs with
  | nil =>
    unfold Zhp at h
    split at h
    · assumption
    · exact h.elim
  | cons x r =>
    unfold Zhp at h
    split at h
    · assumption
    · exact h.elim
theorem Zj8 {ρ ρ1 : Rho} {f : Rs W} (g : Gr ρ ρ1) (h : wpR f (Post G ρ Q) (PostX G fn ρ EX)) : wpR f (Post G ρ1 Q) (PostX G fn ρ1 EX) := Zbv h (fun _ _ z => Post.mono g z) fun _ _ _ z => PostX.mono g z
theorem i_lc (ht : ∀ τ H Q, tT G fn EX t τ H Q → tt τ H Q) (h : tE G fn EX (e_lc I g t e vs) τ H Q) : tLc (tI G fn EX I) (tGv G vs g) tt (tE G fn EX e) vs τ H Q := by
  obtain ⟨ρ, σ, μ, R, S, h⟩ := h
  refine ⟨ρ, σ, μ, R, S, Zbv (wpR_bind.mp h) (fun it μ1 h ρ1 H1 g1 R1 J ok => ?_) fun _ _ _ x => x⟩
  intro D hD
  have RD : Rel G (ρ1.push D) (μ1 ++ [.lst []]) (upd H1 D (.lst [])) := R1.new hD fun ρ' g => ⟨[], upd_same, .nil⟩
  have gD := Gr.snoc ρ1 D
  have aD : (ρ1.push D).ad[μ1.length]? = some D := by
    show (ρ1.ad ++ [D])[μ1.length]? = some D
    rw [← R1.len]
    simp
  have SW : ∀ ρ2, Gr (ρ1.push D) ρ2 → RS ρ2 (wipW σ vs) (wipe τ vs) := fun ρ2 g2 => rs_wipe (RS.mono ((g1.trans gD).trans g2) S) vs
  refine ⟨fun i m H => m = it.xs.length - i ∧ i ≤ it.xs.length ∧ ∃ ρ μ, Gr (ρ1.push D) ρ ∧ Rel G ρ μ H ∧ wpR (Zhp it g t e (wipW σ vs) μ1.length i (it.xs.drop i) μ) (Post G ρ Q) (PostX G fn ρ EX), ⟨_, rfl, Nat.zero_le _, _, _, Gr.refl _, RD, Zj8 (g1.trans gD) h⟩, ?_⟩
  rintro i m H ⟨rfl, hi, ρ2, μ, g2, R2, h⟩
  obtain ⟨k1, k2, k3⟩ := ok ρ2 μ H (gD.trans g2) R2 (compL_chk h)
  by_cases hlt : i < it.xs.length
  · refine .inr ⟨k1 i hlt, fun H => ∃ ρ μ, Gr (ρ1.push D) ρ ∧ Rel G ρ μ H ∧ wpR (Zhp it g t e (wipW σ vs) μ1.length (i + 1) (it.xs.drop (i + 1)) μ) (Post G ρ Q) (PostX G fn ρ EX), fun H' z => ⟨_, ?_, rfl, hlt, z⟩, fun x H' y => ?_⟩
    · omega
    · obtain ⟨w, hw, y⟩ := k3 i x H' hlt y
      rw [drop_cons hw] at h
      unfold Zhp at h
      split at h
      · obtain ⟨ρ3, g3, R3, r3⟩ := itm_at (it := it) R2 y
        split at h
        · rename_i σ1 eg
          refine ⟨ρ3, _, _, _, σ1, R3, SW ρ3 (g2.trans g3), r3, eg, fun τ1 S3 hw => ⟨by rw [hw, wipe_wipe], ht _ _ _ ?_⟩⟩
          refine tT_then R3 S3 (Zj8 g3 h) fun ρ4 c μ4 H4 g4 R4 S4 h => ?_
          cases c with
          | true =>
            refine Zc4 R4 S4 (Zj8 g4 h) fun ρ5 yw μ5 yv H5 g5 R5 S5 ry h => ?_
            split at h
            · rename_i acc ea
              split at h
              · rename_i hl
                have g25 := ((g2.trans g3).trans g4).trans g5
                obtain ⟨l', a', us, el, ev, ha, _, h1, r1⟩ := Zkv R5 (w := .loc μ1.length) (v := .ref D) ⟨D, g25.1 _ _ aD, rfl⟩ ea
                cases el
                cases ev
                exact ⟨us, h1, by rw [← Zeu r1]; exact lim_lt hl, ρ5, _, g25, R5.write (o := .lst (acc ++ [yw])) ha ⟨_, upd_same, Zm8 r1 (.cons ry .nil)⟩, Zj8 g5 h⟩
              · exact h.elim
            · exact h.elim
          | false => exact ⟨ρ4, μ4, (g2.trans g3).trans g4, R4, Zj8 g4 h⟩
        · exact h.elim
      · exact h.elim
  · have e : i = it.xs.length := by omega
    subst e
    rw [List.drop_length] at h
    unfold Zhp at h
    split at h
    · exact .inl ⟨k2, h ρ2 H _ (Gr.refl _) R2 ⟨D, g2.1 _ _ aD, rfl⟩⟩
    · exact h.elim
theorem i_yes {Q : Bool → Hp → Prop} (h : tT G fn EX Zj6 τ H Q) : tYes τ H Q := by
  obtain ⟨ρ, σ, μ, R, S, h⟩ := h
  exact h ρ H (Gr.refl ρ) R
end

/-! ### their rules -/
section
variable {X : Cx} {G : Gt} {fn : Nat → Str} {EX : XK} {elt tg iter c kx : Expr} {scope : Scope} {own : List (Str × Nat)} {pos : Pos} {I : IM} {g : GM} {t : TM} {fe fk : EM} {b : SM} {sts : List Stmt}
theorem v_lc (own : List (Str × Nat)) (hc : X.calm = true) (hN : X.N.Nodup) (hi : PI X tg iter (tI G fn EX I)) (ok : BlkOk X.N X.env.scope scope own)
    (hg : ∀ (s : Shared) (H : Hp) (C : Addr) (cl : List (Str × Addr)) (fp : List Addr), PG (X.blk s H scope (compEnvC scope cl C X.env) fp) tg (tGv G (own.map (·.2)) g))
    (he : ∀ (s : Shared) (H : Hp) (C : Addr) (cl : List (Str × Addr)) (fp : List Addr), PE (X.blk s H scope (compEnvC scope cl C X.env) fp) elt (tE G fn EX fe)) (hs : ∀ x, foldedSetIterable iter X.env x = pure x := by intro _; rfl) :
    PE X (.ListComp elt [⟨tg, iter, [], 0⟩] scope pos) (tE G fn EX (e_lc I g Zj6 fe (own.map (·.2)))) := PE.imp (pe_lc hc hN hi ok hg (fun _ _ _ _ _ => pts_nil) he hs) fun _ _ _ h => i_lc (fun _ _ _ z => i_yes z) h
theorem v_lci (own : List (Str × Nat)) (hc : X.calm = true) (hN : X.N.Nodup) (hi : PI X tg iter (tI G fn EX I)) (ok : BlkOk X.N X.env.scope scope own)
    (hg : ∀ (s : Shared) (H : Hp) (C : Addr) (cl : List (Str × Addr)) (fp : List Addr), PG (X.blk s H scope (compEnvC scope cl C X.env) fp) tg (tGv G (own.map (·.2)) g))
    (ht : ∀ (s : Shared) (H : Hp) (C : Addr) (cl : List (Str × Addr)) (fp : List Addr), PT (X.blk s H scope (compEnvC scope cl C X.env) fp) c (tT G fn EX t))
    (he : ∀ (s : Shared) (H : Hp) (C : Addr) (cl : List (Str × Addr)) (fp : List Addr), PE (X.blk s H scope (compEnvC scope cl C X.env) fp) elt (tE G fn EX fe)) (hs : ∀ x, foldedSetIterable iter X.env x = pure x := by intro _; rfl) :
    PE X (.ListComp elt [⟨tg, iter, [c], 0⟩] scope pos) (tE G fn EX (e_lc I g t fe (own.map (·.2)))) := PE.imp (pe_lc hc hN hi ok hg (fun s H C cl fp => pts_one (ht s H C cl fp)) he hs) fun _ _ _ h => i_lc (fun _ _ _ z => z) h
theorem Zj3 (hp : PassesOwn (model X.prog X.w) X.A X.env X.xe) (hc : X.calm = true) (hi : PI X tg iter (tI G fn EX I)) (hg : PG X tg (tG G g)) (hb : PSs X sts (tS G fn EX b)) (hs : ∀ x, foldedSetIterable iter X.env x = pure x := by intro _; rfl) : PS X (.For tg iter sts [] pos) (tS G fn EX (Ziu I g b)) := PS.imp (ps_for hp hc hi hg hb hs) fun _ _ _ h => i_for h
end

end Vs
namespace Vs
open PySem L2

/-! ### a dict is locked while it is walked: the i-th name -/
section
variable {G : Gt} {ρ : Rho} {μ : Mem} {H : Hp}
variable {fn : Nat → Str} {EX : XK} {τ : L2.St} {i : Nat}
end
section
variable {X : Cx} {G : Gt} {fn : Nat → Str} {EX : XK} {a : Expr} {st : Stmt} {e : EM} {b : SM}
end

/-! ### instances: fields, methods, making -/
noncomputable def putW' (f : Str) (v : W) : List (Str × W) → List (Str × W)
  | [] => [(f, v)]
  | (g, x) :: r => if g = f then (g, v) :: r else (g, x) :: putW' f v r
theorem rk_lookup {ρ : Rho} {f : Str} : ∀ {ws : List (Str × W)} {vs : List (Str × V)}, RK ρ ws vs → (∀ w, ws.lookup f = some w → ∃ v, vs.lookup f = some v ∧ RV ρ w v) ∧ (ws.lookup f = none → vs.lookup f = none)
  | _, _, .nil => ⟨fun w h => (nomatch h), fun _ => rfl⟩
  | _, _, .cons (a := p) (b := q) r t => by
    obtain ⟨h1, h2⟩ := rk_lookup (f := f) t
    obtain ⟨g, x⟩ := p
    obtain ⟨g', x'⟩ := q
    have eg : g = g' := r.1
    subst eg
    rw [List.lookup_cons, List.lookup_cons]
    cases hg : f == g with
    | true => exact ⟨fun w h => ⟨x', rfl, (by cases h; exact r.2)⟩, fun h => (nomatch h)⟩
    | false => exact ⟨h1, h2⟩
theorem rk_putF {ρ : Rho} {f : Str} {w : W} {v : V} (r : RV ρ w v) : ∀ {ws : List (Str × W)} {vs : List (Str × V)}, RK ρ ws vs → RK ρ (putW' f w ws) (putF f v vs)
  | _, _, .nil => .cons ⟨rfl, r⟩ .nil
  | _, _, .cons (a := (g, x)) (b := (g', x')) q t => by
    have eg : g = g' := q.1
    subst eg
    show RK ρ (if g = f then (g, w) :: _ else (g, x) :: putW' f w _) (if g = f then (g, v) :: _ else (g, x') :: putF f v _)
    by_cases h : g = f
    · rw [if_pos h, if_pos h]
      exact .cons ⟨rfl, r⟩ t
    · rw [if_neg h, if_neg h]
      exact .cons q (rk_putF r t)
/-- e.f, e an instance of class c -/
noncomputable def Zmx (c : Nat) (f : Str) (a : EM) : EM := fun σ μ => (a σ μ).bind fun x μ1 => match getI μ1 x with
  | some (c', fs) => if c' = c then (match fs.lookup f with
    | some w => .ok w μ1
    | none => .bad) else .bad
  | none => .bad
noncomputable def setFw (c : Nat) (f : Str) (w x : W) (μ : Mem) : Option Mem := match x with
  | .loc l => (getI μ x).bind fun p => if p.1 = c ∧ p.2.length < 100 then some (μ.set l (.ins c (putW' f w p.2))) else none
  | _ => none
/-- o.f = e -/
noncomputable def s_fld (c : Nat) (f : Str) (e o : EM) : SM := fun σ μ => (e σ μ).bind fun w μ1 => (o σ μ1).bind fun x μ2 => match setFw c f w x μ2 with
  | some m => .ok (.nx σ) m
  | none => .bad
/-- C(..) -/
noncomputable def e_make (c : Nat) (f : Fn) (a : AM) : EM := fun σ μ => (a σ μ).bind fun ws μ1 => (f (.loc μ1.length :: ws) (μ1 ++ [.ins c []])).bind fun r μ2 => match r with
  | .non => .ok (.loc μ1.length) μ2
  | _ => .bad
section
variable {G : Gt} {fn : Nat → Str} {EX : XK} {o e : EM} {r : AM} {τ : L2.St} {H : Hp} {D : Ends} {Q : VK} {c : Nat} {f m : Str}
theorem i_fld (hc : Cls G.K (G.ct c)) (hn : NoAttr G.K (G.ct c) f) (h : tE G fn EX (Zmx c f o) τ H Q) : tFld G.K (tE G fn EX o) f τ H Q := by
  obtain ⟨ρ, σ, μ, R, S, h0⟩ := h
  refine Zc4 R S h0 fun ρ1 x μ1 v H1 g1 R1 S1 rx h => ?_
  split at h
  · rename_i c' fs e1
    split at h
    · rename_i ec
      subst ec
      split at h
      · rename_i w ew
        obtain ⟨l, a, dx, vs, _, rfl, _, _, h1, r1⟩ := getI_at R1 rx e1
        obtain ⟨z, hz, rz⟩ := (rk_lookup r1).1 w ew
        exact ⟨a, _, dx, vs, z, rfl, h1, hc, hn, hz, h ρ1 H1 z g1 R1 rz⟩
      · exact h.elim
    · exact h.elim
  · exact h.elim
theorem i_sfld (hc : Cls G.K (G.ct c)) (hn : NoAttr G.K (G.ct c) f) (h : tS G fn EX (s_fld c f e o) D τ H) : sFld G.K (tE G fn EX o) (tE G fn EX e) f D τ H := by
  obtain ⟨ρ, σ, μ, R, S, h0⟩ := h
  refine Zc4 R S h0 fun ρ1 w μ1 v H1 g1 R1 S1 rw_ h => ?_
  refine Zc4 R1 S1 (Zbv h (fun _ _ z => z) fun _ _ _ z => PostX.mono g1 z) fun ρ2 x μ2 u H2 g2 R2 S2 rx h => ?_
  split at h
  · rename_i mm em
    cases x with
    | loc l =>
      obtain ⟨⟨c', fs⟩, e1, e2⟩ := Option.bind_eq_some_iff.mp em
      split at e2
      · rename_i hl
        obtain ⟨ec, hl⟩ := hl
        cases e2
        have ec' : c' = c := ec
        subst ec'
        obtain ⟨l', a, dx, vs, el, rfl, ha, _, h1, r1⟩ := getI_at R2 rx e1
        cases el
        have hl' : fs.length < 100 := hl
        exact ⟨a, _, dx, vs, rfl, h1, hc, hn, by rw [← rk_len r1]; omega, h ρ2 _ (g1.trans g2) (R2.write ha ⟨dx, _, upd_same, rk_putF (RV.mono g2 rw_) r1⟩) τ S2⟩
      · cases e2
    | _ => cases em
  · exact h.elim
theorem i_make {n : Nat} {d : Fn} (hl : ALen n r) (h : tE G fn EX (e_make c d r) τ H Q) : tMake (G.ct c) (spF G fn (n + 1) d) [] EX (tA G fn EX r) τ H Q := by
  obtain ⟨ρ, σ, μ, R, S, h⟩ := h
  refine ⟨ρ, σ, μ, R, S, ?_⟩
  have h := wpR_bind.mp h
  cases ea : r σ μ with
  | ok ws m2 =>
    rw [ea] at h
    refine fun ρ2 H2 us g2 R2 r2 x dx nx ndx ne => ?_
    have R3 : Rel G ρ2 m2 (upd H2 dx (.own x)) := R2.keep fun l a e => upd_ne (R2.trk e ndx)
    have nx' : upd H2 dx (.own x) x = none := by rw [upd_ne (Ne.symm ne)]; exact nx
    have R4 : Rel G (ρ2.push x) (m2 ++ [.ins c []]) (upd (upd H2 dx (.own x)) x (.ins (G.ct c) dx [])) := R3.new nx' fun ρ' g => ⟨dx, [], upd_same, .nil⟩
    refine ⟨ρ2.push x, _, _ :: ws, R4, by rw [List.append_nil]; exact .cons (Zie R2 x) (RVs.mono (Gr.snoc ρ2 x) r2), by rw [List.length_cons, hl _ _ _ _ ea], ?_⟩
    have g2x := g2.trans (Gr.snoc ρ2 x)
    refine Zbv (wpR_bind.mp h) (fun rr m3 h ρ3 H3 v g3 R3 r3 => ?_) fun _ _ _ z => PostX.mono g2x z
    split at h
    · exact ⟨r3, h ρ3 H3 _ (g2x.trans g3) R3 (RV.mono g3 (Zie R2 x))⟩
    · exact h.elim
  | exc cc w mm =>
    rw [ea] at h
    exact h
  | bad =>
    rw [ea] at h
    exact h.elim
end
section
variable {X : Cx} {G : Gt} {fn : Nat → Str} {EX : XK} {a o : Expr} {es : List Expr} {fa fo : EM} {r : AM} {pos : Pos} {c : Nat} {f m : Str}
theorem v_fld (hK : X.K = G.K) (hc : Cls G.K (G.ct c)) (hn : NoAttr G.K (G.ct c) f) (he : PE X a (tE G fn EX fa)) (hb : attributeBase a f X.env (eval a X.env) = eval a X.env := by rfl) : PE X (.Attribute a f pos) (tE G fn EX (Zmx c f fa)) := PE.imp (pe_fld he hb) fun _ _ _ h => by
  rw [hK]
  exact i_fld hc hn h
theorem vs_fld {p : Pos} (hK : X.K = G.K) (hc : Cls G.K (G.ct c)) (hn : NoAttr G.K (G.ct c) f) (ho : PE X o (tE G fn EX fo)) (he : PE X a (tE G fn EX fa)) (hs : swapsWith a (some (.Attribute o f p)) pos.line X.env = pure false := by rfl) : PS X (.Assign [.Attribute o f p] a pos) (tS G fn EX (s_fld c f fa fo)) := PS.imp (ps_fld ho he hs) fun _ _ _ h => by
  rw [hK]
  exact i_sfld hc hn h
theorem v_make {CX : CXT} {k n : Nat} {g : Addr} {fd : FuncData} {ps : List Str} {d : Fn} {x : Str} {p : Pos} (hK : X.K = G.K) (M : Mk G.K (G.ct c) g) (F : FnOk X.prog X.w X.K X.mg X.base CX k g fd ps (spF G fn (n + 1) d)) (hr : Room (k + 1) X.A) (hg : Gl X x) (hm : X.mg x = some (.ref (G.ct c))) (hb : Binds X.K fd ps []) (hx : Passes CX X EX) (hl : ALen n r) (ha : PA X (a :: es) (tA G fn EX r))
    (hdb : (x == ("__debug__" : Str)) = false := by decide) (he : starEach (a :: es) X.env = (false, eval a X.env) :: starEach es X.env := by rfl) (hpl : (backTo pos (starEach es X.env)).any (·.1) = false := by rfl) : PE X (.Call (.Name x p) (a :: es) [] pos) (tE G fn EX (e_make c d r)) := PE.imp (pe_make (by rw [hK]; exact M) F hr hg hm hb .nil hx ha hdb he hpl) fun _ _ _ h => i_make hl h
end
end Vs
namespace Vs
open PySem L2

/-! ### further forms -/
noncomputable def e_neg (a : EM) : EM := fun σ μ => (a σ μ).bind fun x μ1 => match x with
  | .int i => .ok (.int (-i)) μ1
  | _ => .bad
noncomputable def e_dnew : EM := fun _ μ => .ok (.loc μ.length) (μ ++ [.dic []])
/-- a, b = x, y: stored from the right -/
noncomputable def s_par (i j : Nat) (a : AM) : SM := fun σ μ => (a σ μ).bind fun ws μ1 => match ws with
  | [x, y] => .ok (.nx ((σ.set i (some x)).set j (some y))) μ1
  | _ => .bad
section
variable {X : Cx} {G : Gt} {fn : Nat → Str} {EX : XK} {a b : Expr} {fa fo : EM} {r : AM} {pos : Pos} {c : Nat} {m : Str}
theorem v_gint {x : Str} {i : Int} (hg : Gl X x) (hm : ∃ t, X.mg x = some (.int i t)) (hd : (x == ("__debug__" : Str)) = false := by decide) : PE X (.Name x pos) (tE G fn EX (e_c (.int i))) := by
  obtain ⟨t, hm⟩ := hm
  exact v_glob hg hm (v := .int i) ⟨t, rfl⟩ (fun _ => rfl) hd
theorem v_neg (ha : PE X a (tE G fn EX fa)) : PE X (.UnaryOp .USub a pos) (tE G fn EX (e_neg fa)) := PE.imp (pe_un un_neg ha) fun τ H Q h => by
  obtain ⟨ρ, σ, μ, R, S, h⟩ := h
  refine Zc4 R S h fun ρ1 x μ1 v H1 g1 R1 S1 rx h => ?_
  split at h
  · rename_i i
    exact ⟨i, rx, h ρ1 H1 _ g1 R1 rfl⟩
  · exact h.elim
theorem v_dnew : PE X (.Dict [] [] pos) (tE G fn EX e_dnew) := PE.imp pe_dnewK fun τ H Q h => by
  obtain ⟨ρ, σ, μ, R, S, h⟩ := h
  exact fun p hp => post_dic R .nil h hp
theorem v_bits {ap cp : Pos} (ha : PE X a (tE G fn EX fa)) (hb : attributeBase a "bit_length" X.env (eval a X.env) = eval a X.env := by rfl) (hl : (ap.endLine == cp.line) = true := by rfl) : PE X (.Call (.Attribute a "bit_length" ap) [] [] cp) (tE G fn EX (e_bits fa)) := PE.imp (pe_bits ha hb hl) fun τ H Q h => by
  obtain ⟨ρ, σ, μ, R, S, h⟩ := h
  refine Zc4 R S h fun ρ1 x μ1 v H1 g1 R1 S1 rx h => ?_
  split at h
  · rename_i i
    exact ⟨i, rx, h ρ1 H1 _ g1 R1 rfl⟩
  · exact h.elim
theorem vi_str {tg : Expr} (he : PE X a (tE G fn EX fa)) : PI X tg a (tI G fn EX (n_str fa)) := PI.imp (pi_str he) fun τ H Q h => by
  obtain ⟨ρ, σ, μ, R, S, h⟩ := h
  refine Zc4 (P := fun it μ1 => ∀ ρ' H', Gr ρ ρ' → Rel G ρ' μ1 H' → ∀ J, ItOk G ρ' it J → Q J H') R S h fun ρ1 w μ1 v H1 g1 R1 S1 r1 h => ?_
  split at h
  · rename_i z
    refine ⟨z, r1, h ρ1 H1 g1 R1 _ fun ρ2 μ H g R hc => ?_⟩
    have hl : (z.cps.toList.map fun c => W.str ⟨#[c]⟩).length = z.cps.toList.length := List.length_map ..
    refine ⟨fun i hi => ?_, ?_, fun i x H' hi y => ?_⟩
    · rw [hl] at hi
      show i < z.cps.size
      simpa using hi
    · show z.cps.size ≤ (z.cps.toList.map fun c => W.str ⟨#[c]⟩).length
      rw [hl]
      simp
    · rw [hl] at hi
      obtain ⟨eH, c, hc, hx⟩ := y
      refine ⟨.str ⟨#[c]⟩, ?_, .inr ⟨rfl, eH, hx⟩⟩
      rw [List.getElem?_map, Array.getElem?_toList, hc]
      rfl
  · exact h.elim
theorem vs_par (i j : Nat) {x y : Str} {px py pt : Pos} {kt k2 : Nat} {pt2 : Pos} (hc : X.calm = true) (hN : X.N.Nodup) (ha : PA X [a, b] (tA G fn EX r)) (hij : i ≠ j := by decide) (hi : X.N[i]? = some x := by rfl) (hj : X.N[j]? = some y := by rfl)
    (hx : X.env.scope.names.lookup x = some .local := by rfl) (hy : X.env.scope.names.lookup y = some .local := by rfl) (hw : swappedStores [.Tuple [.Name x px, .Name y py] kt pt] (.Tuple [a, b] k2 pt2) X.env = pure (some [x, y]) := by rfl)
    (hs : swapsWithSole [.Tuple [.Name x px, .Name y py] kt pt] (.Tuple [a, b] k2 pt2) pos.line X.env = pure false := by rfl) : PS X (.Assign [.Tuple [.Name x px, .Name y py] kt pt] (.Tuple [a, b] k2 pt2) pos) (tS G fn EX (s_par i j r)) := PS.imp (ps_par hc hN hi hj hij hx hy ha hw hs) fun D τ H h => by
  obtain ⟨ρ, σ, μ, R, S, h⟩ := h
  refine Zkk R S h fun ρ1 ws μ1 vs H1 g1 R1 S1 r1 h => ?_
  split at h
  · obtain ⟨v, u, rfl, rv, ru⟩ := rvs_two r1
    exact ⟨v, u, rfl, h ρ1 H1 g1 R1 _ (Zhl (w := some _) (v := some _) ru j (Zhl (w := some _) (v := some _) rv i S1))⟩
  · exact h.elim
end
end Vs
set_option maxHeartbeats 3200000
/-! len(set(xs)), xs a list of texts of any length. -/
namespace Vs
open PySem L2 PySem.Spec PyProof.Rows

/-- each text where it is met first -/
noncomputable def fmS (xs : List Str) : List Str := xs.foldl addS []
section
variable {prog : Program} {w : World} {A : Around} {R : Result → Shared → Prop} {I : Addr} {fp wr : List Addr} {G : Array GenState → Array GenState → Prop} {n : Nat} {P : Nat → Value → Prop} {St : Nat → Shared → Prop}
end

section
variable {prog : Program} {w : World} {A : Around} {E : Value → Shared → Prop} {st : Shared}
end
section
variable {X : Cx} {G : Gt} {fn : Nat → Str} {EX : XK} {a : Expr} {fa : EM}
end
end Vs
/-! max(xs, default=d), xs a list of whole numbers; "..".split(); list(d.values()). -/
namespace Vs
open PySem L2 PySem.Spec PyProof.Rows PySem.W

section
variable {X : Cx} {G : Gt} {fn : Nat → Str} {EX : XK} {a b : Expr} {fa fb : EM}
end
end Vs
/-! list(d.values()); "..".split(); sorted of texts. -/
namespace Vs
open PySem L2 PySem.Spec PyProof.Rows

/-! ### list(d.values()) -/
section
variable {X : Cx} {G : Gt} {fn : Nat → Str} {EX : XK} {e : Expr} {fe : EM} {te : TE} {p apos cpos pos : Pos}
/-! ### s.split() -/
end

/-! ### sorted(xs) of texts -/
noncomputable def leS (x y : Str) : Prop := ¬ y.cps.toList < x.cps.toList
instance (x y : Str) : Decidable (leS x y) := inferInstanceAs (Decidable (¬ y.cps.toList < x.cps.toList))
end Vs
/-! Operators of an instance of a class of the program: == and !=, + with a list. -/
namespace Vs
open PySem L2 PySem.Spec PyProof.Rows

theorem ok_raw {P : Program} {w : World} {K : PySem.W.Frag} {mg : Str → Option Value} {base : Heap} {CX : CXT} {k : Nat} {f : Addr} {sp : Sp} {fd : FuncData} {ps : List Str} (F : FnOk P w K mg base CX k f fd ps sp) (hb : Binds K fd ps []) : FnR P w K mg base CX k f sp :=
  (F.raw hb .nil).imp fun vs H Q E h => by rw [List.append_nil]; exact h
/-- x op y, both instances of the class at C -/
noncomputable def rOwnI (C : Addr) (sp : Sp) (E : XK) : R2 := fun x y H Q => ∃ a dx fs b dy gs, x = .ref a ∧ y = .ref b ∧ H a = some (.ins C dx fs) ∧ H b = some (.ins C dy gs) ∧ sp [x, y] H Q E
/-- x + y, y a list -/
noncomputable def rOwnL (K : PySem.W.Frag) (C : Addr) (sp : Sp) (E : XK) : R2 := fun x y H Q => ∃ a dx fs b ys, x = .ref a ∧ y = .ref b ∧ H a = some (.ins C dx fs) ∧ SqL K H b ys ∧ sp [x, y] H Q E
/-- what != asks of the class -/
structure Neq (K : PySem.W.Frag) (C : Addr) : Prop where
  ne : PySem.W.findIn K (.ref C) "__ne__" = some (some (.builtin "object.__ne__"))
  ob : PySem.W.subIn K (.ref C) (.type "object") = some true
section
variable {X : Cx} {CX : CXT} {C g : Addr} {n : Nat} {sp : Sp} {E : XK}
theorem op_eqI (m : Meth X.K C "__eq__" g) (F : FnR X.prog X.w X.K X.mg X.base CX n g sp) (hr : Room n X.A) (hx : Passes CX X E) : OpR X (compareOp .Eq) (rOwnI C sp E) := by
  intro pins s σ H x y v u Q I rx ry h
  obtain ⟨a, dx, fs, b, dy, gs, rfl, rfl, ha, hb, q⟩ := h
  obtain rfl : v = .ref a := rx
  obtain rfl : u = .ref b := ry
  obtain ⟨_, O, _⟩ := ins_get I.hok ha
  obtain ⟨_, O', _⟩ := ins_get I.hok hb
  obtain ⟨_, J, _⟩ := O.look
  obtain ⟨_, J', _⟩ := O'.look
  obtain ⟨mf, hF⟩ := I.fr
  refine PySem.W.cmp_K (op := .Eq) (tb := .ref C) hr.units0 hF I.ok.mod.kin J J'.type (by unfold PySem.W.notFirst; simp) m.at_ m.fn ?_
  refine wpAny_mono (wpAny_call (SlX.run_at (us := [.ref a, .ref b]) (ws := [.ref a, .ref b]) F hr I.env0 hx I (.cons rfl (.cons rfl .nil)) q)) (fun w s' ⟨z, H', I', rz, qz⟩ => SlX.cmpback rz ⟨z, H', I', rz, qz⟩) fun _ _ x => x
theorem op_neI (N : Neq X.K C) (m : Meth X.K C "__eq__" g) (F : FnR X.prog X.w X.K X.mg X.base CX n g sp) (hr : Room (n + 1) X.A) (hx : Passes CX X E) :
    OpR X (compareOp .NotEq) (fun x y H Q => rOwnI C sp E x y H fun z H' => ∃ b, z = .bl b ∧ Q (.bl (!b)) H') := by
  intro pins s σ H x y v u Q I rx ry h
  obtain ⟨a, dx, fs, b, dy, gs, rfl, rfl, ha, hb, q⟩ := h
  obtain rfl : v = .ref a := rx
  obtain rfl : u = .ref b := ry
  obtain ⟨_, O, _⟩ := ins_get I.hok ha
  obtain ⟨_, O', _⟩ := ins_get I.hok hb
  obtain ⟨_, J, _⟩ := O.look
  obtain ⟨_, J', _⟩ := O'.look
  have hu : X.A.units < cLine := hr.units0
  have hr1 : Room n X.A.in1 := Room.in1 hr
  have body : wpAny (model X.prog X.w) X.A.in1 (Builtin.«object.__ne__» ⟨[.ref a, .ref b], []⟩) (fun fin s' => ∃ b, fin = .done (.ret (.bool b)) ∧ EP X pins σ Q (.bool b) s') X.xe s := by
    unfold Builtin.«object.__ne__»
    have inner : wpAny (model X.prog X.w) X.A.in1 (callSpecialIfBound? (.ref a) "__eq__" [.ref b]) (fun r s' => ∃ k, r = some (.bool k) ∧ EP X pins σ Q (.bool (!k)) s') X.xe s := by
      refine PySem.W.ifBound_K I.kIn J m.at_ m.fn (wpAny_mono (wpAny_call (SlX.run_at (us := [.ref a, .ref b]) (ws := [.ref a, .ref b]) F hr1 I.env0.in1 hx I (.cons rfl (.cons rfl .nil)) q)) (fun w s' ⟨z, H', I', rz, k, ek, qz⟩ => ?_) fun _ _ x => x)
      subst ek
      obtain rfl : w = .bool k := rz
      exact ⟨k, rfl, .bl (!k), H', I', rfl, qz⟩
    repeat (first | with_reducible refine wpAny_cRoomFor hr1.units0 ?_ | with_reducible refine wpAny_mono inner (fun r s' ⟨k, er, qk⟩ => ?_) (fun _ _ x => x) | wp_step)
    subst er
    refine wpAny_bind (wpAny_pure ?_)
    exact wpAny_pure ⟨!k, rfl, qk⟩
  have one : wpAny (model X.prog X.w) X.A (tryCompare (.ref a) "__ne__" (.ref b)) (fun r s' => ∃ k, r = some (.bool k) ∧ EP X pins σ Q (.bool k) s') X.xe s := by
    have S := PySem.F.slot_object_ne
    have run : wpAny (model X.prog X.w) X.A (call (.builtin "object.__ne__") [.ref a, .ref b]) (fun r s' => ∃ k, r = .bool k ∧ EP X pins σ Q (.bool k) s') X.xe s :=
      wpAny_call (codeAny_call_builtin S.plain PySem.F.cmpEntry_ne (PySem.W.check_slot PySem.F.cmpKind_ne PySem.F.cmpSplit_ne (J.type.andThen (PySem.W.looks_subIn I.kIn N.ob)) (PySem.F.cmpArgs_ne _ _) (wpAny_mono body (fun fin s' ⟨k, ef, qk⟩ => by subst ef; exact ⟨k, rfl, qk⟩) fun _ _ x => x)))
    unfold tryCompare
    refine wpAny_bind ?_
    simp only [callSpecialIfBound?, bindSpecialIfBound?]
    refine wpAny_holding (wpAny_bind (wpAny_bind (wpAny_bind (J.type.here ((PySem.W.looks_findIn I.kIn N.ne).here ?_)))))
    simp only [S.bind]
    refine wpAny_bind (wpAny_askSetting (wpAny_ite ?_))
    have fin : wpAny (model X.prog X.w) X.A (call (.builtin "object.__ne__") ([.ref a] ++ [.ref b]) >>= fun v => pure (some v)) (fun a s' => wpAny (model X.prog X.w) X.A (match a with | some Value.notImplemented => pure none | none => pure none | some v => pure (some v)) (fun r s' => ∃ k, r = some (Value.bool k) ∧ EP X pins σ Q (Value.bool k) s') X.xe s') X.xe s :=
      wpAny_bind (wpAny_mono run (fun r s' ⟨k, er, qk⟩ => by subst er; exact wpAny_pure (wpAny_pure ⟨k, rfl, qk⟩)) fun _ _ x => x)
    split
    · exact wpAny_bind (wpAny_pure (wpAny_pure fin))
    · exact wpAny_tryCatch (wpAny_bind (wpAny_pure (wpAny_pure fin)))
  show wpAny _ _ (richCompare .NotEq (.ref a) (.ref b)) _ _ _
  unfold richCompare
  simp only [oneThing_ref]
  refine wpAny_holding (wpAny_bind (wpAny_cRoomFor hu (wpAny_bind (J.type.here (wpAny_bind (J'.type.here ?_))))))
  rw [if_neg (by simp)]
  refine wpAny_bind (wpAny_pure ?_)
  rw [if_neg (by simp)]
  exact wpAny_bind (wpAny_mono one (fun r s' ⟨k, er, qk⟩ => by subst er; exact wpAny_pure qk) fun _ _ x => x)
end
end Vs
/-! Own operators as denotations; isinstance against an own class. -/
namespace Vs
open PySem L2

noncomputable def isC (c : Nat) (μ : Mem) (w : W) : Bool := match getI μ w with
  | some (c', _) => decide (c' = c)
  | none => false
/-- x == y, both of class c -/
noncomputable def e_oeq (c : Nat) (f : Fn) (a b : EM) : EM := fun σ μ => (a σ μ).bind fun x μ1 => (b σ μ1).bind fun y μ2 => if (isC c μ2 x && isC c μ2 y) = true then f [x, y] μ2 else .bad
noncomputable def e_one (c : Nat) (f : Fn) (a b : EM) : EM := fun σ μ => (a σ μ).bind fun x μ1 => (b σ μ1).bind fun y μ2 => if (isC c μ2 x && isC c μ2 y) = true then (f [x, y] μ2).bind fun z μ3 => match z with
    | .bl k => .ok (.bl (!k)) μ3
    | _ => .bad
  else .bad
/-- x + y, y a list -/
noncomputable def e_oadd (c : Nat) (f : Fn) (a b : EM) : EM := fun σ μ => (a σ μ).bind fun x μ1 => (b σ μ1).bind fun y μ2 => if (isC c μ2 x && (getR μ2 y).isSome) = true then f [x, y] μ2 else .bad
/-- isinstance(x, C) -/
noncomputable def e_isI (c : Nat) (a : EM) : EM := fun σ μ => (a σ μ).bind fun x μ1 => match tyW μ1 x with
  | some _ => .ok (.bl false) μ1
  | none => if isC c μ1 x = true then .ok (.bl true) μ1 else .bad
structure Isi (K : PySem.W.Frag) (C : Addr) : Prop where
  ca : PySem.W.findIn K (.ref C) "__class__" = some (some (.builtin "object.__class__"))
  cn : PySem.W.specialIn K (.builtin "object.__class__") "__get__" = some (some (.builtin "getset_descriptor.__get__"))
  tk : PySem.W.takesIn K (.builtin "object.__class__") = some true
  ob : PySem.W.mroIn K C (.type "object") = some true
  no : ∀ t ∈ (["NoneType", "bool", "int", "str", "list", "tuple", "dict"] : List String), PySem.W.kitOne K (.type t) (.ref C) = some false
section
variable {G : Gt} {fn : Nat → Str} {EX : XK} {a b : EM} {τ : L2.St} {H : Hp} {Q : VK} {c : Nat} {f : Fn}
theorem Zh7 {ρ : Rho} {μ : Mem} {w : W} {v : V} (R : Rel G ρ μ H) (r : RV ρ w v) (h : isC c μ w = true) : ∃ p dx fs, v = .ref p ∧ H p = some (.ins (G.ct c) dx fs) := by
  unfold isC at h
  split at h
  · rename_i c' fs e
    have ec := of_decide_eq_true h
    subst ec
    obtain ⟨l, p, dx, vs, _, rfl, _, _, h1, _⟩ := getI_at R r e
    exact ⟨p, dx, vs, rfl, h1⟩
  · cases h
theorem i_oeq (h : tE G fn EX (e_oeq c f a b) τ H Q) : tOp (rOwnI (G.ct c) (spF G fn 2 f) EX) (tE G fn EX a) (tE G fn EX b) τ H Q := by
  obtain ⟨ρ, σ, μ, R, S, h⟩ := h
  refine Zc4 R S h fun ρ1 x μ1 v H1 g1 R1 S1 rx h => ?_
  refine Zc4 R1 S1 (Zbv h (fun _ _ z => z) fun _ _ _ z => PostX.mono g1 z) fun ρ2 y μ2 u H2 g2 R2 S2 ry h => ?_
  split at h
  · rename_i hc
    obtain ⟨h1, h2⟩ := Bool.and_eq_true_iff.mp hc
    obtain ⟨p, dx, fs, e1, e2⟩ := Zh7 R2 (RV.mono g2 rx) h1
    obtain ⟨q, dy, gs, e3, e4⟩ := Zh7 R2 ry h2
    exact ⟨p, dx, fs, q, dy, gs, e1, e3, e2, e4, ρ2, μ2, [x, y], R2, .cons (RV.mono g2 rx) (.cons ry .nil), rfl, Zbv h (fun _ _ z => Post.mono (g1.trans g2) z) fun _ _ _ z => PostX.mono g2 z⟩
  · exact h.elim
theorem i_one (h : tE G fn EX (e_one c f a b) τ H Q) : tOp (fun x y H Q => rOwnI (G.ct c) (spF G fn 2 f) EX x y H fun z H' => ∃ k, z = .bl k ∧ Q (.bl (!k)) H') (tE G fn EX a) (tE G fn EX b) τ H Q := by
  obtain ⟨ρ, σ, μ, R, S, h⟩ := h
  refine Zc4 R S h fun ρ1 x μ1 v H1 g1 R1 S1 rx h => ?_
  refine Zc4 R1 S1 (Zbv h (fun _ _ z => z) fun _ _ _ z => PostX.mono g1 z) fun ρ2 y μ2 u H2 g2 R2 S2 ry h => ?_
  split at h
  · rename_i hc
    obtain ⟨h1, h2⟩ := Bool.and_eq_true_iff.mp hc
    obtain ⟨p, dx, fs, e1, e2⟩ := Zh7 R2 (RV.mono g2 rx) h1
    obtain ⟨q, dy, gs, e3, e4⟩ := Zh7 R2 ry h2
    refine ⟨p, dx, fs, q, dy, gs, e1, e3, e2, e4, ρ2, μ2, [x, y], R2, .cons (RV.mono g2 rx) (.cons ry .nil), rfl, Zbv (wpR_bind.mp h) (fun z μ3 hz ρ3 H3 v3 g3 R3 r3 => ?_) fun _ _ _ z => PostX.mono g2 z⟩
    split at hz
    · rename_i k
      exact ⟨k, r3, hz ρ3 H3 _ ((g1.trans g2).trans g3) R3 rfl⟩
    · exact hz.elim
  · exact h.elim
theorem i_oadd (h : tE G fn EX (e_oadd c f a b) τ H Q) : tOp (rOwnL G.K (G.ct c) (spF G fn 2 f) EX) (tE G fn EX a) (tE G fn EX b) τ H Q := by
  obtain ⟨ρ, σ, μ, R, S, h⟩ := h
  refine Zc4 R S h fun ρ1 x μ1 v H1 g1 R1 S1 rx h => ?_
  refine Zc4 R1 S1 (Zbv h (fun _ _ z => z) fun _ _ _ z => PostX.mono g1 z) fun ρ2 y μ2 u H2 g2 R2 S2 ry h => ?_
  split at h
  · rename_i hc
    obtain ⟨h1, h2⟩ := Bool.and_eq_true_iff.mp hc
    obtain ⟨p, dx, fs, e1, e2⟩ := Zh7 R2 (RV.mono g2 rx) h1
    obtain ⟨ws, e5⟩ := Option.isSome_iff_exists.mp h2
    obtain ⟨l, q, us, _, e3, _, e4, _⟩ := Zgv R2 ry e5
    exact ⟨p, dx, fs, q, us, e1, e3, e2, e4, ρ2, μ2, [x, y], R2, .cons (RV.mono g2 rx) (.cons ry .nil), rfl, Zbv h (fun _ _ z => Post.mono (g1.trans g2) z) fun _ _ _ z => PostX.mono g2 z⟩
  · exact h.elim
end
section
variable {X : Cx} {G : Gt} {fn : Nat → Str} {EX : XK} {a b : Expr} {fa fb : EM} {t : TM} {pos : Pos} {c : Nat} {f : Fn} {CX : CXT} {n : Nat} {g : Addr} {fd : FuncData} {ps : List Str}
theorem v_oeq (hK : X.K = G.K) (m : Meth G.K (G.ct c) "__eq__" g) (F : FnOk X.prog X.w X.K X.mg X.base CX n g fd ps (spF G fn 2 f)) (hb' : Binds X.K fd ps []) (hr : Room n X.A) (hx : Passes CX X EX) (ha : PE X a (tE G fn EX fa)) (hb : PE X b (tE G fn EX fb)) (hm : behindInMarks .Eq b = false := by first | exact nobehind _ (by decide) (by decide) | rfl) :
    PE X (.Compare a [.Eq] [b] pos) (tE G fn EX (e_oeq c f fa fb)) := PE.imp (pe_cmpR (op_eqI (by rw [hK]; exact m) (ok_raw F hb') hr hx) ha hb hm) fun _ _ _ h => i_oeq h
/-- a test that is a comparison by an own operator -/
theorem w_own {op : CmpOp} {rr : R2} {e : EM} (ho : OpR X (compareOp op) rr) (i : ∀ {τ : L2.St} {H : Hp} {Q : VK}, tE G fn EX e τ H Q → tOp rr (tE G fn EX fa) (tE G fn EX fb) τ H Q) (ha : PE X a (tE G fn EX fa)) (hb : PE X b (tE G fn EX fb)) (hm : behindInMarks op b = false := by first | exact nobehind _ (by decide) (by decide) | rfl) :
    PT X (.Compare a [op] [b] pos) (tT G fn EX (Zgn e)) := PT.imp (pt_cmpR ho ha hb hm) fun τ H Q h => by
  obtain ⟨ρ, σ, μ, R, S, h⟩ := h
  refine i ?_
  refine ⟨ρ, σ, μ, R, S, Zbv (wpR_bind.mp h) (fun w μ1 hk ρ1 H1 v g R1 r => ?_) fun _ _ _ x => x⟩
  split at hk
  · rename_i k
    exact ⟨k, r, hk ρ1 H1 g R1⟩
  · exact hk.elim
theorem w_one (hK : X.K = G.K) (N : Neq G.K (G.ct c)) (m : Meth G.K (G.ct c) "__eq__" g) (F : FnOk X.prog X.w X.K X.mg X.base CX n g fd ps (spF G fn 2 f)) (hb' : Binds X.K fd ps []) (hr : Room (n + 1) X.A) (hx : Passes CX X EX) (ha : PE X a (tE G fn EX fa)) (hb : PE X b (tE G fn EX fb)) (hm : behindInMarks .NotEq b = false := by first | exact nobehind _ (by decide) (by decide) | rfl) :
    PT X (.Compare a [.NotEq] [b] pos) (tT G fn EX (Zgn (e_one c f fa fb))) := w_own (op_neI (by rw [hK]; exact N) (by rw [hK]; exact m) (ok_raw F hb') hr hx) (fun h => i_one h) ha hb hm
theorem v_isI {x : Str} {p pt pos : Pos} (hK : X.K = G.K) (hc : Cls G.K (G.ct c)) (D : Isi G.K (G.ct c)) (hg : Gl X "isinstance") (hm : X.mg "isinstance" = none) (hgt : Gl X x) (hmt : X.mg x = some (.ref (G.ct c))) (ha : PE X a (tE G fn EX fa)) (hd : (x == ("__debug__" : Str)) = false := by decide)
    (he : starEach [a, .Name x pt] X.env = (false, eval a X.env) :: starEach [.Name x pt] X.env := by rfl) (he2 : starEach [.Name x pt] X.env = (false, eval (.Name x pt) X.env) :: starEach [] X.env := by rfl) (hpl : (backTo pos (starEach [.Name x pt] X.env)).any (·.1) = false := by rfl) :
    PE X (.Call (.Name "isinstance" p) [a, .Name x pt] [] pos) (tE G fn EX (e_isI c fa)) :=
  PE.imp (pe_callB call_isi hg hm (by decide +kernel) (pa_cons ha (pa_cons (pe_glob (v := .ref (G.ct c)) hgt hmt rfl hd) pa_nil he2) he) (by decide) (by decide) he hpl) fun τ H Q h => by
    obtain ⟨ρ, σ, μ, R, S, h⟩ := h
    refine Zc4 R S h fun ρ1 x μ1 v H1 g1 R1 S1 rx h => ?_
    split at h
    · rename_i t e
      exact ⟨v, .ref (G.ct c), .type t, .ref (G.ct c), false, rfl, .own _, by rw [hK]; exact tyW_at R1 rx e, by rw [hK]; exact D.no t (tyW_mem e), h ρ1 H1 _ g1 R1 rfl⟩
    · split at h
      · rename_i hi
        obtain ⟨p, dx, fs, e1, e2⟩ := Zh7 R1 rx hi
        subst e1
        exact ⟨.ref p, .ref (G.ct c), .ref (G.ct c), .ref (G.ct c), true, rfl, .own _, by rw [hK]; exact .base (.ins e2 hc D.ca D.cn D.tk D.ob), by unfold PySem.W.kitOne; rw [if_pos (by simp)], h ρ1 H1 _ g1 R1 rfl⟩
      · exact h.elim
end
end Vs
/-! x[y] of an instance; y in x; len(x). -/
namespace Vs
open PySem L2 PySem.Spec PyProof.Rows

section
variable {X : Cx} {CX : CXT} {C g : Addr} {n : Nat} {sp : Sp} {E : XK}
variable {a b : Expr} {ta tb : TE} {pos : Pos}
end
section
variable {G : Gt} {fn : Nat → Str} {EX : XK} {a b : EM} {τ : L2.St} {H : Hp} {Q : VK} {c : Nat} {f : Fn}
end
section
variable {X : Cx} {G : Gt} {fn : Nat → Str} {EX : XK} {a b : Expr} {fa fb : EM} {pos : Pos} {c : Nat} {f : Fn} {CX : CXT} {n : Nat} {g : Addr} {fd : FuncData} {ps : List Str}
end
end Vs
/-! name = {k: v for ..} on one line. -/
namespace Vs
open PySem L2 PySem.Spec PyProof.Rows
section
variable {X : Cx} {kx vx tg iter : Expr} {scope : Scope} {pos : Pos}
end
section
variable {X : Cx} {G : Gt} {fn : Nat → Str} {EX : XK} {kx vx tg iter : Expr} {scope : Scope} {pos : Pos} {I : IM} {g : GM} {fk fe : EM}
end
end Vs
/-! Trees and cells: what is never changed is a tree, what is changed stands in a numbered cell. -/
namespace Vs
open PySem L2

inductive T where
  | non | bl (b : Bool) | int (i : Int) | str (x : Str) | lst (xs : List T) | tup (xs : List T) | dic (kvs : List (Key × T)) | ins (n : Nat) (fs : List (Str × T)) | cell (k : Nat) | exn (n : Nat) (t : T)
  deriving Inhabited
inductive TO where
  | lst (xs : List T) | dic (kvs : List (Key × T)) | ins (n : Nat) (fs : List (Str × T)) | scr (ns : List Int)
  deriving Inhabited
noncomputable abbrev Sd := List TO
/-- the field of an error, by the number of its class -/
noncomputable def FN (n : Nat) : Str := if n % 5 = 1 then "value" else if n % 5 = 2 then "index" else if n % 5 = 3 then "ring" else if n % 5 = 4 then "name" else "claim"
mutual
noncomputable def Dt (lk : Option Nat) (c : List Nat) (μ : Mem) : T → W → Prop
  | .non, w => w = .non
  | .bl b, w => w = .bl b
  | .int i, w => w = .int i
  | .str x, w => w = .str x
  | .cell k, w => ∃ l, c[k]? = some l ∧ w = .loc l
  | .lst ts, w => ∃ l ws, w = .loc l ∧ l ∉ c ∧ μ[l]? = some (.lst ws) ∧ DtL lk c μ ts ws
  | .tup ts, w => ∃ l ws, w = .loc l ∧ l ∉ c ∧ μ[l]? = some (.tup ws) ∧ DtL lk c μ ts ws
  | .dic ts, w => ∃ l ws, w = .loc l ∧ l ∉ c ∧ (μ[l]? = some (.dic ws) ∨ (lk = some l ∧ μ[l]? = some (.fdic ws))) ∧ DtK lk c μ ts ws
  | .ins n ts, w => ∃ l ws, w = .loc l ∧ l ∉ c ∧ μ[l]? = some (.ins n ws) ∧ DtF lk c μ ts ws
  | .exn n t, w => ∃ (l dl : Nat) (_f : Str) (v : W), w = .loc l ∧ l ∉ c ∧ dl ∉ c ∧ μ[l]? = some (.exn n dl) ∧ μ[dl]? = some (.xdc (FN n) v) ∧ Dt lk c μ t v
noncomputable def DtL (lk : Option Nat) (c : List Nat) (μ : Mem) : List T → List W → Prop
  | [], ws => ws = []
  | t :: ts, ws => ∃ v vs, ws = v :: vs ∧ Dt lk c μ t v ∧ DtL lk c μ ts vs
noncomputable def DtK (lk : Option Nat) (c : List Nat) (μ : Mem) : List (Key × T) → List (Key × W) → Prop
  | [], ws => ws = []
  | (k, t) :: ts, ws => ∃ v vs, ws = (k, v) :: vs ∧ Dt lk c μ t v ∧ DtK lk c μ ts vs
noncomputable def DtF (lk : Option Nat) (c : List Nat) (μ : Mem) : List (Str × T) → List (Str × W) → Prop
  | [], ws => ws = []
  | (k, t) :: ts, ws => ∃ v vs, ws = (k, v) :: vs ∧ Dt lk c μ t v ∧ DtF lk c μ ts vs
end
/-- what follows: the cells grow by new places, all else stays -/
structure Nx (c : List Nat) (μ : Mem) (c' : List Nat) (m : Mem) : Prop where
  gr : ∃ e, c' = c ++ e ∧ ∀ l ∈ e, μ.length ≤ l
  kp : ∀ (l : Nat) (o : O), l ∉ c → μ[l]? = some o → m[l]? = some o
  len : μ.length ≤ m.length
theorem Zdf {μ : Mem} {l : Nat} {o : O} (h : μ[l]? = some o) : l < μ.length := (List.getElem?_eq_some_iff.mp h).1
theorem Nx.out {c c' : List Nat} {μ m : Mem} (x : Nx c μ c' m) {l : Nat} (h : l ∉ c) (hl : l < μ.length) : l ∉ c' := by
  obtain ⟨⟨e, rfl, he⟩, _, _⟩ := x
  intro z
  rcases List.mem_append.mp z with z | z
  · exact h z
  · exact absurd (he l z) (Nat.not_le.mpr hl)
theorem Nx.refl (c : List Nat) (μ : Mem) : Nx c μ c μ := ⟨⟨[], by simp, fun l h => by cases h⟩, fun _ _ _ h => h, Nat.le_refl _⟩
theorem Nx.trans {c c1 c2 : List Nat} {μ μ1 μ2 : Mem} (x : Nx c μ c1 μ1) (y : Nx c1 μ1 c2 μ2) : Nx c μ c2 μ2 := by
  refine ⟨?_, fun l o h e => y.kp l o (x.out h (Zdf e)) (x.kp l o h e), Nat.le_trans x.len y.len⟩
  obtain ⟨e, rfl, he⟩ := x.gr
  obtain ⟨e', rfl, he'⟩ := y.gr
  refine ⟨e ++ e', by simp, fun l h => ?_⟩
  rcases List.mem_append.mp h with h | h
  · exact he l h
  · exact Nat.le_trans x.len (he' l h)
theorem Nx.cell {c c' : List Nat} {μ m : Mem} (x : Nx c μ c' m) {k l : Nat} (h : c[k]? = some l) : c'[k]? = some l := by
  obtain ⟨⟨e, rfl, _⟩, _, _⟩ := x
  rw [List.getElem?_append_left (List.getElem?_eq_some_iff.mp h).1]
  exact h
variable {lk : Option Nat}
section
variable {c c' : List Nat} {μ m : Mem}
mutual
theorem Dt.mono (x : Nx c μ c' m) : ∀ {t : T} {w : W}, Dt lk c μ t w → Dt lk c' m t w
  | .non, _, h => by unfold Dt at h ⊢; exact h
  | .bl _, _, h => by unfold Dt at h ⊢; exact h
  | .int _, _, h => by unfold Dt at h ⊢; exact h
  | .str _, _, h => by unfold Dt at h ⊢; exact h
  | .cell k, _, h => by
    unfold Dt at h ⊢
    obtain ⟨l, e, r⟩ := h
    exact ⟨l, x.cell e, r⟩
  | .lst ts, _, h => by
    unfold Dt at h ⊢
    obtain ⟨l, ws, e, n, a, r⟩ := h
    exact ⟨l, ws, e, x.out n (Zdf a), x.kp l _ n a, DtL.mono x r⟩
  | .tup ts, _, h => by
    unfold Dt at h ⊢
    obtain ⟨l, ws, e, n, a, r⟩ := h
    exact ⟨l, ws, e, x.out n (Zdf a), x.kp l _ n a, DtL.mono x r⟩
  | .dic ts, _, h => by
    unfold Dt at h ⊢
    obtain ⟨l, ws, e, n, a, r⟩ := h
    rcases a with a | ⟨b, a⟩
    · exact ⟨l, ws, e, x.out n (Zdf a), .inl (x.kp l _ n a), DtK.mono x r⟩
    · exact ⟨l, ws, e, x.out n (Zdf a), .inr ⟨b, x.kp l _ n a⟩, DtK.mono x r⟩
  | .ins _ ts, _, h => by
    unfold Dt at h ⊢
    obtain ⟨l, ws, e, n, a, r⟩ := h
    exact ⟨l, ws, e, x.out n (Zdf a), x.kp l _ n a, DtF.mono x r⟩
  | .exn _ t, _, h => by
    unfold Dt at h ⊢
    obtain ⟨l, dl, f, v, e, n, n2, a, a2, r⟩ := h
    exact ⟨l, dl, f, v, e, x.out n (Zdf a), x.out n2 (Zdf a2), x.kp l _ n a, x.kp dl _ n2 a2, Dt.mono x r⟩
theorem DtL.mono (x : Nx c μ c' m) : ∀ {t : List T} {w : List W}, DtL lk c μ t w → DtL lk c' m t w
  | [], _, h => by unfold DtL at h ⊢; exact h
  | t :: ts, _, h => by
    unfold DtL at h ⊢
    obtain ⟨v, vs, e, a, b⟩ := h
    exact ⟨v, vs, e, Dt.mono x a, DtL.mono x b⟩
theorem DtK.mono (x : Nx c μ c' m) : ∀ {t : List (Key × T)} {w : List (Key × W)}, DtK lk c μ t w → DtK lk c' m t w
  | [], _, h => by unfold DtK at h ⊢; exact h
  | (k, t) :: ts, _, h => by
    unfold DtK at h ⊢
    obtain ⟨v, vs, e, a, b⟩ := h
    exact ⟨v, vs, e, Dt.mono x a, DtK.mono x b⟩
theorem DtF.mono (x : Nx c μ c' m) : ∀ {t : List (Str × T)} {w : List (Str × W)}, DtF lk c μ t w → DtF lk c' m t w
  | [], _, h => by unfold DtF at h ⊢; exact h
  | (k, t) :: ts, _, h => by
    unfold DtF at h ⊢
    obtain ⟨v, vs, e, a, b⟩ := h
    exact ⟨v, vs, e, Dt.mono x a, DtF.mono x b⟩
end
end
noncomputable def DtO (lk : Option Nat) (c : List Nat) (μ : Mem) : TO → O → Prop
  | .lst ts, u => ∃ ws, u = .lst ws ∧ DtL lk c μ ts ws
  | .dic ts, u => ∃ ws, u = .dic ws ∧ DtK lk c μ ts ws
  | .ins n ts, u => ∃ ws, u = .ins n ws ∧ DtF lk c μ ts ws
  | .scr ns, u => u = .scr ns
theorem DtO.mono {c c' : List Nat} {μ m : Mem} (x : Nx c μ c' m) : ∀ {o : TO} {u : O}, DtO lk c μ o u → DtO lk c' m o u
  | .lst _, _, ⟨ws, e, r⟩ => ⟨ws, e, r.mono x⟩
  | .dic _, _, ⟨ws, e, r⟩ => ⟨ws, e, r.mono x⟩
  | .ins _ _, _, ⟨ws, e, r⟩ => ⟨ws, e, r.mono x⟩
  | .scr _, _, e => e
/-- the cells -/
structure CO (lk : Option Nat) (c : List Nat) (μ : Mem) (s : Sd) : Prop where
  len : c.length = s.length
  nd : c.Nodup
  ob : ∀ (k l : Nat) (o : TO), c[k]? = some l → s[k]? = some o → ∃ u, μ[l]? = some u ∧ DtO lk c μ o u
/-- results -/
inductive Rd (α : Type) where
  | ok (a : α) (s : Sd) | exc (n : Nat) (t : T) (s : Sd) | bad
noncomputable def Rd.bind {α β : Type} : Rd α → (α → Sd → Rd β) → Rd β
  | .ok a s, k => k a s
  | .exc n t s, _ => .exc n t s
  | .bad, _ => .bad
noncomputable def RR (lk : Option Nat) {α β : Type} (Q : List Nat → Mem → β → α → Prop) (c : List Nat) (μ : Mem) (r : Rs α) (d : Rd β) : Prop := match d with
  | .ok b s => ∃ a m c', r = .ok a m ∧ Nx c μ c' m ∧ CO lk c' m s ∧ Q c' m b a
  | .exc n t s => ∃ w m c', r = .exc n w m ∧ Nx c μ c' m ∧ CO lk c' m s ∧ Dt lk c' m t w
  | .bad => True
theorem RR.bind {α β α' β' : Type} {Q : List Nat → Mem → β → α → Prop} {Q' : List Nat → Mem → β' → α' → Prop} {c : List Nat} {μ : Mem} {r : Rs α} {d : Rd β} {k : α → Mem → Rs α'} {kd : β → Sd → Rd β'} (h : RR lk Q c μ r d)
    (f : ∀ b s a m c', Nx c μ c' m → CO lk c' m s → Q c' m b a → RR lk Q' c' m (k a m) (kd b s)) : RR lk Q' c μ (r.bind k) (d.bind kd) := by
  cases d with
  | bad => exact True.intro
  | exc n t s =>
    obtain ⟨w, m, c', rfl, x, o, q⟩ := h
    exact ⟨w, m, c', rfl, x, o, q⟩
  | ok b s =>
    obtain ⟨a, m, c', rfl, x, o, q⟩ := h
    have g := f b s a m c' x o q
    show RR lk Q' c μ (k a m) (kd b s)
    revert g
    cases kd b s with
    | bad => exact fun _ => True.intro
    | exc n t s2 => exact fun ⟨w, m2, c2, e, x2, o2, q2⟩ => ⟨w, m2, c2, e, x.trans x2, o2, q2⟩
    | ok b2 s2 => exact fun ⟨w, m2, c2, e, x2, o2, q2⟩ => ⟨w, m2, c2, e, x.trans x2, o2, q2⟩
noncomputable abbrev Ed := List (Option T)
noncomputable abbrev DE := Ed → Sd → Rd T
noncomputable abbrev DTm := Ed → Sd → Rd Bool
noncomputable abbrev DA := Ed → Sd → Rd (List T)
noncomputable abbrev DFn := List T → Sd → Rd T
noncomputable def SDr (lk : Option Nat) (c : List Nat) (μ : Mem) (w : Option W) : Option T → Prop
  | none => True
  | some t => ∃ v, w = some v ∧ Dt lk c μ t v
noncomputable abbrev SD (lk : Option Nat) (c : List Nat) (μ : Mem) : En → Ed → Prop := Paired (SDr lk c μ)
theorem SD.mono {c c' : List Nat} {μ m : Mem} (x : Nx c μ c' m) {σ : En} {δ : Ed} (h : SD lk c μ σ δ) : SD lk c' m σ δ := Paired.mapP h fun w t r => by
  cases t with
  | none => exact True.intro
  | some t =>
    obtain ⟨v, e, d⟩ := r
    exact ⟨v, e, d.mono x⟩
noncomputable def RE (lk : Option Nat) (e : EM) (d : DE) : Prop := ∀ {c : List Nat} {μ : Mem} {σ : En} {δ : Ed} {s : Sd}, CO lk c μ s → SD lk c μ σ δ → RR lk (Dt lk) c μ (e σ μ) (d δ s)
noncomputable def RT (lk : Option Nat) (e : TM) (d : DTm) : Prop := ∀ {c : List Nat} {μ : Mem} {σ : En} {δ : Ed} {s : Sd}, CO lk c μ s → SD lk c μ σ δ → RR lk (fun _ _ b a => a = b) c μ (e σ μ) (d δ s)
noncomputable def RA (lk : Option Nat) (e : AM) (d : DA) : Prop := ∀ {c : List Nat} {μ : Mem} {σ : En} {δ : Ed} {s : Sd}, CO lk c μ s → SD lk c μ σ δ → RR lk (DtL lk) c μ (e σ μ) (d δ s)
noncomputable def RF (f : Fn) (d : DFn) : Prop := ∀ {lk : Option Nat}, lk = none → ∀ {c : List Nat} {μ : Mem} {ws : List W} {ts : List T} {s : Sd}, CO lk c μ s → DtL lk c μ ts ws → RR lk (Dt lk) c μ (f ws μ) (d ts s)
/-- a new tree's place -/
theorem Zj1 {c : List Nat} {μ : Mem} (o : O) : Nx c μ c (μ ++ [o]) := ⟨⟨[], by simp, fun l h => by cases h⟩, fun l u _ h => by rw [List.getElem?_append_left (Zdf h)]; exact h, by simp⟩
theorem CO.low {c : List Nat} {μ : Mem} {s : Sd} (h : CO lk c μ s) {l : Nat} (hl : l ∈ c) : l < μ.length := by
  obtain ⟨k, hk⟩ := List.mem_iff_getElem?.mp hl
  have h1 : k < s.length := by rw [← h.len]; exact (List.getElem?_eq_some_iff.mp hk).1
  obtain ⟨u, e, _⟩ := h.ob k l s[k] hk (List.getElem?_eq_getElem h1)
  exact Zdf e
theorem CO.mono {c : List Nat} {μ m : Mem} {s : Sd} (h : CO lk c μ s) (x : Nx c μ c m) (k : ∀ l ∈ c, m[l]? = μ[l]?) : CO lk c m s := ⟨h.len, h.nd, fun i l o a b => by
  obtain ⟨u, e, d⟩ := h.ob i l o a b
  exact ⟨u, by rw [k l (List.mem_of_getElem? a)]; exact e, d.mono x⟩⟩
theorem CO.new {c : List Nat} {μ : Mem} {s : Sd} (h : CO lk c μ s) (o : O) : CO lk c (μ ++ [o]) s := h.mono (Zj1 o) fun l hl => List.getElem?_append_left (h.low hl)
theorem Zk6 {μ : Mem} {o : O} : (μ ++ [o])[μ.length]? = some o := by simp
theorem CO.fresh {c : List Nat} {μ : Mem} {s : Sd} (h : CO lk c μ s) : μ.length ∉ c := fun z => Nat.lt_irrefl _ (h.low z)
theorem rr_lst {c : List Nat} {μ : Mem} {s : Sd} (h : CO lk c μ s) {ts : List T} {ws : List W} (r : DtL lk c μ ts ws) : RR lk (Dt lk) c μ (.ok (.loc μ.length) (μ ++ [.lst ws])) (.ok (.lst ts) s) :=
  ⟨_, _, c, rfl, Zj1 _, h.new _, by unfold Dt; exact ⟨_, ws, rfl, h.fresh, Zk6, r.mono (Zj1 _)⟩⟩
theorem rr_tup {c : List Nat} {μ : Mem} {s : Sd} (h : CO lk c μ s) {ts : List T} {ws : List W} (r : DtL lk c μ ts ws) : RR lk (Dt lk) c μ (.ok (.loc μ.length) (μ ++ [.tup ws])) (.ok (.tup ts) s) :=
  ⟨_, _, c, rfl, Zj1 _, h.new _, by unfold Dt; exact ⟨_, ws, rfl, h.fresh, Zk6, r.mono (Zj1 _)⟩⟩
theorem rr_dic {c : List Nat} {μ : Mem} {s : Sd} (h : CO lk c μ s) {ts : List (Key × T)} {ws : List (Key × W)} (r : DtK lk c μ ts ws) : RR lk (Dt lk) c μ (.ok (.loc μ.length) (μ ++ [.dic ws])) (.ok (.dic ts) s) :=
  ⟨_, _, c, rfl, Zj1 _, h.new _, by unfold Dt; exact ⟨_, ws, rfl, h.fresh, .inl Zk6, r.mono (Zj1 _)⟩⟩
theorem Zdr {α β : Type} {Q : List Nat → Mem → β → α → Prop} {c : List Nat} {μ : Mem} {s : Sd} {a : α} {b : β} (h : CO lk c μ s) (q : Q c μ b a) : RR lk Q c μ (.ok a μ) (.ok b s) := ⟨a, μ, c, rfl, Nx.refl _ _, h, q⟩
/-- a new cell -/
theorem Zko {c : List Nat} {μ : Mem} {s : Sd} (h : CO lk c μ s) {o : TO} {u : O} (r : DtO lk c μ o u) : RR lk (Dt lk) c μ (.ok (.loc μ.length) (μ ++ [u])) (.ok (.cell s.length) (s ++ [o])) := by
  have x : Nx c μ (c ++ [μ.length]) (μ ++ [u]) := ⟨⟨[μ.length], rfl, fun l hl => by rw [List.mem_singleton.mp hl]; exact Nat.le_refl _⟩, fun l o _ e => by rw [List.getElem?_append_left (Zdf e)]; exact e, by simp⟩
  refine ⟨_, _, c ++ [μ.length], rfl, x, ⟨by simp [h.len], ?_, fun k l o' a b => ?_⟩, by unfold Dt; exact ⟨μ.length, by rw [← h.len]; simp, rfl⟩⟩
  · exact List.nodup_append.mpr ⟨h.nd, by simp, fun a ha b hb => by rw [List.mem_singleton.mp hb]; exact fun e => h.fresh (e ▸ ha)⟩
  · rcases Nat.lt_or_ge k c.length with hk | hk
    · rw [List.getElem?_append_left hk] at a
      rw [List.getElem?_append_left (by rw [← h.len]; exact hk)] at b
      obtain ⟨v, e, d⟩ := h.ob k l o' a b
      exact ⟨v, by rw [List.getElem?_append_left (Zdf e)]; exact e, d.mono x⟩
    · rw [List.getElem?_append_right hk] at a
      rw [List.getElem?_append_right (by rw [← h.len]; exact hk)] at b
      rw [h.len] at a
      cases hq : k - s.length with
      | zero =>
        rw [hq] at a b
        simp at a b
        subst a b
        exact ⟨u, Zk6, r.mono x⟩
      | succ n => rw [hq] at a; simp at a
end Vs
/-! Trees and cells: expressions. -/
namespace Vs
open PySem L2

/-- the object that a tree or a cell stands for -/
inductive TU where
  | lst (xs : List T) | tup (xs : List T) | dic (kvs : List (Key × T)) | ins (n : Nat) (fs : List (Str × T)) | scr (ns : List Int)
noncomputable def ob (s : Sd) : T → Option TU
  | .lst ts => some (.lst ts)
  | .tup ts => some (.tup ts)
  | .dic ts => some (.dic ts)
  | .ins n ts => some (.ins n ts)
  | .cell k => match s[k]? with
    | some (.lst ts) => some (.lst ts)
    | some (.dic ts) => some (.dic ts)
    | some (.ins n ts) => some (.ins n ts)
    | some (.scr ns) => some (.scr ns)
    | none => none
  | _ => none
variable {lk : Option Nat}
noncomputable def DtU (lk : Option Nat) (c : List Nat) (μ : Mem) (l : Nat) : TU → O → Prop
  | .lst ts, u => ∃ ws, u = .lst ws ∧ DtL lk c μ ts ws
  | .tup ts, u => ∃ ws, u = .tup ws ∧ DtL lk c μ ts ws
  | .dic ts, u => ∃ ws, (u = .dic ws ∨ (lk = some l ∧ u = .fdic ws)) ∧ DtK lk c μ ts ws
  | .ins n ts, u => ∃ ws, u = .ins n ws ∧ DtF lk c μ ts ws
  | .scr ns, u => u = .scr ns
section
variable {c : List Nat} {μ : Mem} {s : Sd} {t : T} {w : W}
theorem Ze3 (h : CO lk c μ s) (d : Dt lk c μ t w) {o : TU} (e : ob s t = some o) : ∃ l u, w = .loc l ∧ μ[l]? = some u ∧ DtU lk c μ l o u := by
  cases t with
  | lst ts =>
    cases e
    unfold Dt at d
    obtain ⟨l, ws, rfl, _, a, r⟩ := d
    exact ⟨l, _, rfl, a, ws, rfl, r⟩
  | tup ts =>
    cases e
    unfold Dt at d
    obtain ⟨l, ws, rfl, _, a, r⟩ := d
    exact ⟨l, _, rfl, a, ws, rfl, r⟩
  | dic ts =>
    cases e
    unfold Dt at d
    obtain ⟨l, ws, rfl, _, a, r⟩ := d
    rcases a with a | ⟨b, a⟩
    · exact ⟨l, _, rfl, a, ws, .inl rfl, r⟩
    · exact ⟨l, _, rfl, a, ws, .inr ⟨b, rfl⟩, r⟩
  | ins n ts =>
    cases e
    unfold Dt at d
    obtain ⟨l, ws, rfl, _, a, r⟩ := d
    exact ⟨l, _, rfl, a, ws, rfl, r⟩
  | cell k =>
    unfold Dt at d
    obtain ⟨l, a, rfl⟩ := d
    simp only [ob] at e
    split at e
    · rename_i ts hs
      cases e
      obtain ⟨u, b, r⟩ := h.ob k l _ a hs
      obtain ⟨ws, rfl, r⟩ := r
      exact ⟨l, _, rfl, b, ws, rfl, r⟩
    · rename_i ts hs
      cases e
      obtain ⟨u, b, r⟩ := h.ob k l _ a hs
      obtain ⟨ws, rfl, r⟩ := r
      exact ⟨l, _, rfl, b, ws, .inl rfl, r⟩
    · rename_i n ts hs
      cases e
      obtain ⟨u, b, r⟩ := h.ob k l _ a hs
      obtain ⟨ws, rfl, r⟩ := r
      exact ⟨l, _, rfl, b, ws, rfl, r⟩
    · rename_i ns hs
      cases e
      obtain ⟨u, b, r⟩ := h.ob k l _ a hs
      exact ⟨l, u, rfl, b, r⟩
    · cases e
  | _ => cases e
theorem DtL.length : ∀ {ts : List T} {ws : List W}, DtL lk c μ ts ws → ws.length = ts.length
  | [], _, h => by unfold DtL at h; rw [h]; rfl
  | t :: ts, _, h => by
    unfold DtL at h
    obtain ⟨v, vs, rfl, _, b⟩ := h
    rw [List.length_cons, List.length_cons, b.length]
theorem Zev : DtL lk c μ [] [] := by unfold DtL; rfl
theorem Zdj {t : T} {w : W} {ts : List T} {ws : List W} (a : Dt lk c μ t w) (b : DtL lk c μ ts ws) : DtL lk c μ (t :: ts) (w :: ws) := by unfold DtL; exact ⟨w, ws, rfl, a, b⟩
theorem Zmq : ∀ {ts us : List T} {ws vs : List W}, DtL lk c μ ts ws → DtL lk c μ us vs → DtL lk c μ (ts ++ us) (ws ++ vs)
  | [], _, _, _, a, b => by
    unfold DtL at a
    rw [a]
    exact b
  | t :: ts, _, _, _, a, b => by
    unfold DtL at a
    obtain ⟨v, vs, rfl, x, y⟩ := a
    exact Zdj x (Zmq y b)
theorem dtl_get : ∀ {ts : List T} {ws : List W}, DtL lk c μ ts ws → ∀ {i : Nat} {t : T}, ts[i]? = some t → ∃ w, ws[i]? = some w ∧ Dt lk c μ t w
  | [], _, h, i, t, e => by simp at e
  | t :: ts, _, h, 0, _, e => by
    unfold DtL at h
    obtain ⟨v, vs, rfl, x, y⟩ := h
    simp at e
    subst e
    exact ⟨v, rfl, x⟩
  | t :: ts, _, h, i + 1, u, e => by
    unfold DtL at h
    obtain ⟨v, vs, rfl, x, y⟩ := h
    simpa using dtl_get y (i := i) (t := u) (by simpa using e)
theorem dtl_take : ∀ (n : Nat) {ts : List T} {ws : List W}, DtL lk c μ ts ws → DtL lk c μ (ts.take n) (ws.take n)
  | 0, _, _, _ => by simp; exact Zev
  | n + 1, [], _, h => by
    unfold DtL at h
    rw [h]
    exact Zev
  | n + 1, t :: ts, _, h => by
    unfold DtL at h
    obtain ⟨v, vs, rfl, x, y⟩ := h
    exact Zdj x (dtl_take n y)
theorem dtl_drop : ∀ (n : Nat) {ts : List T} {ws : List W}, DtL lk c μ ts ws → DtL lk c μ (ts.drop n) (ws.drop n)
  | 0, _, _, h => by simpa using h
  | n + 1, [], _, h => by
    unfold DtL at h
    rw [h]
    exact Zev
  | n + 1, t :: ts, _, h => by
    unfold DtL at h
    obtain ⟨v, vs, rfl, x, y⟩ := h
    exact dtl_drop n y
end

/-! ### tree-level denotations -/
noncomputable def Zad (i : Nat) : DE := fun δ s => match δ[i]? with
  | some (some t) => .ok t s
  | _ => .bad
noncomputable def x_c (t : T) : DE := fun _ s => .ok t s
noncomputable abbrev DP2 := T → T → Sd → Option (T × Sd)
noncomputable abbrev DPN := List T → Sd → Option (T × Sd)
noncomputable def Zbw {α : Type} : Option (α × Sd) → Rd α
  | some (a, s) => .ok a s
  | none => .bad
noncomputable def Zap (op : DP2) (a b : DE) : DE := fun δ s => (a δ s).bind fun x s1 => (b δ s1).bind fun y s2 => Zbw (op x y s2)
noncomputable def Zaf : DA := fun _ s => .ok [] s
noncomputable def Zaa (a : DE) (r : DA) : DA := fun δ s => (a δ s).bind fun x s1 => (r δ s1).bind fun xs s2 => .ok (x :: xs) s2
noncomputable def Zep (a : DA) : DE := fun δ s => (a δ s).bind fun xs s1 => if xs.length ≤ LIM then .ok (.tup xs) s1 else .bad
noncomputable def Zej (a : DA) : DE := fun δ s => (a δ s).bind fun xs s1 => if xs.length ≤ LIM then .ok (.lst xs) s1 else .bad
/-- a list that will be changed -/
noncomputable def x_cel (a : DA) : DE := fun δ s => (a δ s).bind fun xs s1 => if xs.length ≤ LIM then .ok (.cell s1.length) (s1 ++ [.lst xs]) else .bad
noncomputable def x_cb (op : DPN) (a : DA) : DE := fun δ s => (a δ s).bind fun xs s1 => Zbw (op xs s1)
noncomputable def Zem (a : DE) : DTm := fun δ s => (a δ s).bind fun x s1 => match x with
  | .bl b => .ok b s1
  | _ => .bad
noncomputable def xt_and (a b : DTm) : DTm := fun δ s => (a δ s).bind fun k s1 => if k = true then b δ s1 else .ok false s1
noncomputable def Zic (a b : DTm) : DTm := fun δ s => (a δ s).bind fun k s1 => if k = true then .ok true s1 else b δ s1
noncomputable def Zf0 (a : DTm) : DTm := fun δ s => (a δ s).bind fun k s1 => .ok (!k) s1
noncomputable def Zix (a b : DE) : DE := fun δ s => (a δ s).bind fun x s1 => match x with
  | .bl true => b δ s1
  | .bl false => .ok (.bl false) s1
  | _ => .bad
noncomputable def x_or (a b : DE) : DE := fun δ s => (a δ s).bind fun x s1 => match x with
  | .bl true => .ok (.bl true) s1
  | .bl false => b δ s1
  | _ => .bad
noncomputable def x_not (a : DE) : DE := fun δ s => (a δ s).bind fun x s1 => match x with
  | .bl b => .ok (.bl (!b)) s1
  | _ => .bad
noncomputable def x_if (t : DTm) (a b : DE) : DE := fun δ s => (t δ s).bind fun k s1 => if k = true then a δ s1 else b δ s1
noncomputable def Zbs (f : DFn) (a : DA) : DE := fun δ s => (a δ s).bind fun xs s1 => f xs s1
noncomputable def ROp (lk : Option Nat) (op : P2) (d : DP2) : Prop := ∀ {c : List Nat} {μ : Mem} {s : Sd} {x y : W} {tx ty : T}, CO lk c μ s → Dt lk c μ tx x → Dt lk c μ ty y → RR lk (Dt lk) c μ (lift (op x y μ)) (Zbw (d tx ty s))
noncomputable def ROn (lk : Option Nat) (op : PN) (d : DPN) : Prop := ∀ {c : List Nat} {μ : Mem} {s : Sd} {x : List W} {tx : List T}, CO lk c μ s → DtL lk c μ tx x → RR lk (Dt lk) c μ (lift (op x μ)) (Zbw (d tx s))
section
variable {a b : EM} {da db : DE} {r : AM} {dr : DA} {t u : TM} {dt du : DTm}
theorem Zal (i : Nat) : RE lk (Zah i) (Zad i) := by
  intro c μ σ δ s h d
  unfold Zad
  split
  · rename_i t e
    have key : ∀ {σ : En} {δ : Ed}, SD lk c μ σ δ → ∀ {i : Nat} {t : T}, δ[i]? = some (some t) → ∃ w, σ[i]? = some (some w) ∧ Dt lk c μ t w := by
      intro σ δ d
      induction d with
      | nil => intro i t e; simp at e
      | cons p q ih =>
        intro i t e
        cases i with
        | zero =>
          simp at e
          subst e
          obtain ⟨v, rfl, hv⟩ := p
          exact ⟨v, rfl, hv⟩
        | succ i => simpa using ih (i := i) (t := t) (by simpa using e)
    obtain ⟨w, e2, hw⟩ := key d e
    unfold Zah
    rw [e2]
    exact Zdr h hw
  · exact True.intro
theorem r_c {w : W} {t : T} (hw : ∀ c μ, Dt lk c μ t w) : RE lk (e_c w) (x_c t) := fun h d => Zdr h (hw _ _)
theorem Zbq (i : Int) : RE lk (e_c (.int i)) (x_c (.int i)) := r_c fun _ _ => by unfold Dt; rfl
theorem r_bl (i : Bool) : RE lk (e_c (.bl i)) (x_c (.bl i)) := r_c fun _ _ => by unfold Dt; rfl
theorem Zf1 (i : Str) : RE lk (e_c (.str i)) (x_c (.str i)) := r_c fun _ _ => by unfold Dt; rfl
theorem r_non : RE lk (e_c .non) (x_c .non) := r_c fun _ _ => by unfold Dt; rfl
theorem Zbt {op : P2} {d : DP2} (o : ROp lk op d) (ha : RE lk a da) (hb : RE lk b db) : RE lk (Za2 op a b) (Zap d da db) := fun h sd => (ha h sd).bind fun tx s1 x μ1 c1 n1 h1 dx => (hb h1 (sd.mono n1)).bind fun ty s2 y μ2 c2 n2 h2 dy => o h2 (dx.mono n2) dy
theorem Za4 : RA lk a_nil Zaf := fun h sd => Zdr h Zev
theorem Zae (ha : RE lk a da) (hr : RA lk r dr) : RA lk (Zac a r) (Zaa da dr) := fun h sd => (ha h sd).bind fun tx s1 x μ1 c1 n1 h1 dx => (hr h1 (sd.mono n1)).bind fun ty s2 y μ2 c2 n2 h2 dy => Zdr h2 (Zdj (dx.mono n2) dy)
theorem Zh0 (hr : RA lk r dr) : RE lk (Zgh r) (Zep dr) := fun h sd => (hr h sd).bind fun tx s1 x μ1 c1 n1 h1 dx => by
  rw [dx.length]
  split
  · exact rr_tup h1 dx
  · exact True.intro
theorem Zgf (hr : RA lk r dr) : RE lk (Ze7 r) (Zej dr) := fun h sd => (hr h sd).bind fun tx s1 x μ1 c1 n1 h1 dx => by
  rw [dx.length]
  split
  · exact rr_lst h1 dx
  · exact True.intro
theorem r_cel (hr : RA lk r dr) : RE lk (Ze7 r) (x_cel dr) := fun h sd => (hr h sd).bind fun tx s1 x μ1 c1 n1 h1 dx => by
  rw [dx.length]
  split
  · exact Zko h1 ⟨x, rfl, dx⟩
  · exact True.intro
theorem r_cb {op : PN} {d : DPN} (o : ROn lk op d) (hr : RA lk r dr) : RE lk (e_cb op r) (x_cb d dr) := fun h sd => (hr h sd).bind fun tx s1 x μ1 c1 n1 h1 dx => o h1 dx
theorem Zjf {c : List Nat} {μ : Mem} {b : Bool} {w : W} (h : Dt lk c μ (.bl b) w) : w = .bl b := by unfold Dt at h; exact h
theorem Zfb {c : List Nat} {μ : Mem} {b : Int} {w : W} (h : Dt lk c μ (.int b) w) : w = .int b := by unfold Dt at h; exact h
theorem Zgy {c : List Nat} {μ : Mem} {b : Str} {w : W} (h : Dt lk c μ (.str b) w) : w = .str b := by unfold Dt at h; exact h
theorem Zi0 {c : List Nat} {μ : Mem} {w : W} (h : Dt lk c μ .non w) : w = .non := by unfold Dt at h; exact h
theorem Zgi {c : List Nat} {μ : Mem} (b : Bool) : Dt lk c μ (.bl b) (.bl b) := by unfold Dt; rfl
theorem Zfn {c : List Nat} {μ : Mem} (b : Int) : Dt lk c μ (.int b) (.int b) := by unfold Dt; rfl
theorem Zhx {c : List Nat} {μ : Mem} (b : Str) : Dt lk c μ (.str b) (.str b) := by unfold Dt; rfl
theorem Zmi {c : List Nat} {μ : Mem} : Dt lk c μ .non .non := by unfold Dt; rfl
theorem Zgc (ha : RE lk a da) : RT lk (Zgn a) (Zem da) := fun h sd => (ha h sd).bind fun tx s1 x μ1 c1 n1 h1 dx => by
  cases tx with
  | bl k =>
    obtain rfl := Zjf dx
    exact Zdr h1 rfl
  | _ => exact True.intro
theorem rt_or (ht : RT lk t dt) (hu : RT lk u du) : RT lk (t_or t u) (Zic dt du) := fun h sd => (ht h sd).bind fun k s1 k' μ1 c1 n1 h1 e => by
  subst e
  split
  · exact Zdr h1 rfl
  · exact hu h1 (sd.mono n1)
theorem Zh9 (ht : RT lk t dt) : RT lk (Zib t) (Zf0 dt) := fun h sd => (ht h sd).bind fun k s1 k' μ1 c1 n1 h1 e => by
  subst e
  exact Zdr h1 rfl
theorem Zkp (ha : RE lk a da) (hb : RE lk b db) : RE lk (Ziw a b) (Zix da db) := fun h sd => (ha h sd).bind fun tx s1 x μ1 c1 n1 h1 dx => by
  cases tx with
  | bl k =>
    obtain rfl := Zjf dx
    cases k with
    | true => exact hb h1 (sd.mono n1)
    | false => exact Zdr h1 (Zgi _)
  | _ => exact True.intro
theorem r_or (ha : RE lk a da) (hb : RE lk b db) : RE lk (e_or a b) (x_or da db) := fun h sd => (ha h sd).bind fun tx s1 x μ1 c1 n1 h1 dx => by
  cases tx with
  | bl k =>
    obtain rfl := Zjf dx
    cases k with
    | false => exact hb h1 (sd.mono n1)
    | true => exact Zdr h1 (Zgi _)
  | _ => exact True.intro
theorem r_not (ha : RE lk a da) : RE lk (e_not a) (x_not da) := fun h sd => (ha h sd).bind fun tx s1 x μ1 c1 n1 h1 dx => by
  cases tx with
  | bl k =>
    obtain rfl := Zjf dx
    exact Zdr h1 (Zgi _)
  | _ => exact True.intro
theorem Zdq {f : Fn} {d : DFn} (hf : RF f d) (hr : RA none r dr) : RE none (e_call f r) (Zbs d dr) := fun h sd => (hr h sd).bind fun tx s1 x μ1 c1 n1 h1 dx => hf rfl h1 dx
end
end Vs
/-! Trees and cells: operators. -/
namespace Vs
open PySem L2
variable {lk : Option Nat}
noncomputable def yI (C : Int → Int → Bool) (g : Int → Int → T) : DP2 := fun x y s => match x, y with
  | .int i, .int j => if C i j = true then some (g i j, s) else none
  | _, _ => none
theorem ro_I {C : Int → Int → Bool} {g : Int → Int → W} {k : Int → Int → T} (e : ∀ c μ i j, Dt lk c μ (k i j) (g i j)) : ROp lk (pI C g) (yI C k) := by
  intro c μ s x y tx ty h dx dy
  cases tx with
  | int i => cases ty with
    | int j =>
      obtain rfl := Zfb dx
      obtain rfl := Zfb dy
      unfold yI pI
      dsimp only
      split
      · exact Zdr h (e _ _ _ _)
      · exact True.intro
    | _ => exact True.intro
  | _ => exact True.intro
noncomputable def ySub : DP2 := yI (fun _ _ => true) fun i j => .int (i - j)
noncomputable def yMul : DP2 := yI cMul fun i j => .int (i * j)
noncomputable def yDiv : DP2 := yI cDiv fun i j => .int (i / j)
noncomputable def yMod : DP2 := yI (fun _ j => decide (0 < j)) fun i j => .int (i % j)
noncomputable def yPow : DP2 := yI cPow fun i j => .int (i ^ j.toNat)
noncomputable def yLt : DP2 := yI (fun _ _ => true) fun i j => .bl (decide (i < j))
noncomputable def yLe : DP2 := yI (fun _ _ => true) fun i j => .bl (decide (i ≤ j))
noncomputable def yGt : DP2 := yI (fun _ _ => true) fun i j => .bl (decide (j < i))
noncomputable def yGe : DP2 := yI (fun _ _ => true) fun i j => .bl (decide (j ≤ i))
theorem ro_sub : ROp lk pSubI ySub := by unfold pSubI ySub; exact ro_I fun _ _ _ _ => Zfn _
theorem Zk8 : ROp lk Zls yMul := by unfold Zls yMul; exact ro_I fun _ _ _ _ => Zfn _
theorem ro_div : ROp lk pDivI yDiv := by unfold pDivI yDiv; exact ro_I fun _ _ _ _ => Zfn _
theorem Zm2 : ROp lk Znf yMod := by unfold Znf yMod; exact ro_I fun _ _ _ _ => Zfn _
theorem ro_pow : ROp lk pPowI yPow := by unfold pPowI yPow; exact ro_I fun _ _ _ _ => Zfn _
theorem ro_gt : ROp lk pGt yGt := by unfold pGt yGt; exact ro_I fun _ _ _ _ => Zgi _
/-- + -/
noncomputable def yAdd : DP2 := fun x y s => match x, y with
  | .int i, .int j => some (.int (i + j), s)
  | .str a, .str b => if a.length + b.length ≤ LIM then some (.str (a ++ b), s) else none
  | x, y => match ob s x, ob s y with
    | some (.lst xs), some (.lst ys) => if xs.length + ys.length ≤ LIM then some (.lst (xs ++ ys), s) else none
    | some (.tup xs), some (.tup ys) => if xs.length + ys.length ≤ LIM then some (.tup (xs ++ ys), s) else none
    | _, _ => none
theorem ob_dt {c : List Nat} {μ : Mem} {s : Sd} {t : T} {w : W} {ts : List T} (h : CO lk c μ s) (d : Dt lk c μ t w) (e : ob s t = some (.tup ts)) : t = .tup ts := by
  cases t with
  | tup us => cases e; rfl
  | cell k =>
    simp only [ob] at e
    split at e <;> cases e
  | _ => cases e
theorem Zer : ROp lk pAdd yAdd := by
  intro c μ s x y tx ty h dx dy
  have main : RR lk (Dt lk) c μ (lift (pAdd x y μ)) (Zbw (match ob s tx, ob s ty with
    | some (.lst xs), some (.lst ys) => if xs.length + ys.length ≤ LIM then some (.lst (xs ++ ys), s) else none
    | some (.tup xs), some (.tup ys) => if xs.length + ys.length ≤ LIM then some (.tup (xs ++ ys), s) else none
    | _, _ => none)) := by
    split
    · rename_i xs ys e1 e2
      split
      · rename_i hl
        obtain ⟨l1, u1, rfl, a1, ws1, rfl, r1⟩ := Ze3 h dx e1
        obtain ⟨l2, u2, rfl, a2, ws2, rfl, r2⟩ := Ze3 h dy e2
        have e : pAdd (.loc l1) (.loc l2) μ = some (.loc μ.length, μ ++ [.lst (ws1 ++ ws2)]) := by
          simp [pAdd, por, pAddI, pI, pAddS, pAddL, getL, a1, a2, r1.length, r2.length, hl]
        rw [e]
        exact rr_lst h (Zmq r1 r2)
      · exact True.intro
    · rename_i xs ys e1 e2
      split
      · rename_i hl
        have t1 := ob_dt h dx e1
        have t2 := ob_dt h dy e2
        obtain ⟨l1, u1, rfl, a1, ws1, rfl, r1⟩ := Ze3 h dx e1
        obtain ⟨l2, u2, rfl, a2, ws2, rfl, r2⟩ := Ze3 h dy e2
        have n1 : ws1 = [] ↔ xs = [] := by rw [← List.length_eq_zero_iff, ← List.length_eq_zero_iff, r1.length]
        have n2 : ws2 = [] ↔ ys = [] := by rw [← List.length_eq_zero_iff, ← List.length_eq_zero_iff, r2.length]
        subst t1 t2
        by_cases z1 : ws1 = []
        · have e : pAdd (.loc l1) (.loc l2) μ = some (.loc l2, μ) := by
            have hl' : ws1.length + ws2.length ≤ LIM := by rw [r1.length, r2.length]; exact hl
            simp only [pAdd, por, pAddI, pI, pAddS, pAddL, pAddT, getL, getT, a1, a2, if_pos hl', if_pos z1]
          rw [e, n1.mp z1]
          exact Zdr h dy
        · by_cases z2 : ws2 = []
          · have e : pAdd (.loc l1) (.loc l2) μ = some (.loc l1, μ) := by
              have hl' : ws1.length + ws2.length ≤ LIM := by rw [r1.length, r2.length]; exact hl
              simp only [pAdd, por, pAddI, pI, pAddS, pAddL, pAddT, getL, getT, a1, a2, if_pos hl', if_neg z1, if_pos z2]
            rw [e, n2.mp z2, List.append_nil]
            exact Zdr h dx
          · have e : pAdd (.loc l1) (.loc l2) μ = some (.loc μ.length, μ ++ [.tup (ws1 ++ ws2)]) := by
              have hl' : ws1.length + ws2.length ≤ LIM := by rw [r1.length, r2.length]; exact hl
              simp only [pAdd, por, pAddI, pI, pAddS, pAddL, pAddT, getL, getT, a1, a2, if_pos hl', if_neg z1, if_neg z2]
            rw [e]
            exact rr_tup h (Zmq r1 r2)
      · exact True.intro
    · exact True.intro
  unfold yAdd
  split
  · obtain rfl := Zfb dx
    obtain rfl := Zfb dy
    exact Zdr h (Zfn _)
  · obtain rfl := Zgy dx
    obtain rfl := Zgy dy
    split
    · rename_i hl
      simp only [pAdd, por, pAddI, pI, pAddS, hl, if_true]
      exact Zdr h (Zhx _)
    · exact True.intro
  · exact main
/-- a list, the script too; a tuple -/
noncomputable def seqT (s : Sd) (t : T) : Option (List T) := match ob s t with
  | some (.lst ts) => some ts
  | some (.tup ts) => some ts
  | some (.scr ns) => some (ns.map T.int)
  | _ => none
theorem ints_dt {c : List Nat} {μ : Mem} : ∀ ns : List Int, DtL lk c μ (ns.map T.int) (ns.map W.int)
  | [] => Zev
  | n :: ns => Zdj (Zfn n) (ints_dt ns)
theorem seqT_at {c : List Nat} {μ : Mem} {s : Sd} {t : T} {w : W} {ts : List T} (h : CO lk c μ s) (d : Dt lk c μ t w) (e : seqT s t = some ts) : ∃ ws, seqW μ w = some ws ∧ DtL lk c μ ts ws := by
  unfold seqT at e
  split at e
  · rename_i us e1
    cases e
    obtain ⟨l, u, rfl, a, ws, rfl, r⟩ := Ze3 h d e1
    exact ⟨ws, by simp [seqW, getR, a], r⟩
  · rename_i us e1
    cases e
    obtain ⟨l, u, rfl, a, ws, rfl, r⟩ := Ze3 h d e1
    exact ⟨ws, by simp [seqW, getR, getT, a], r⟩
  · rename_i ns e1
    cases e
    obtain ⟨l, u, rfl, a, rfl⟩ := Ze3 h d e1
    exact ⟨_, by simp [seqW, getR, a], ints_dt ns⟩
  · cases e
/-- items -/
noncomputable def keyT : T → Option Key
  | .int i => some (.inl i)
  | .str x => some (.inr x)
  | _ => none
noncomputable def valT {κ : Type} [DecidableEq κ] (kvs : List (κ × T)) (k : κ) : Option T := (kvs.find? fun kv => decide (kv.1 = k)).map (·.2)
theorem Zna {c : List Nat} {μ : Mem} {k : Key} : ∀ {ts : List (Key × T)} {ws : List (Key × W)}, DtK lk c μ ts ws → (∀ t, valT ts k = some t → ∃ w, valW ws k = some w ∧ Dt lk c μ t w) ∧ (valT ts k = none → valW ws k = none)
  | [], _, h => by
    unfold DtK at h
    subst h
    exact ⟨fun t e => (nomatch e), fun _ => rfl⟩
  | (k', t') :: ts, _, h => by
    unfold DtK at h
    obtain ⟨v, vs, rfl, a, b⟩ := h
    have ih := Zna (k := k) b
    unfold valT valW at ih ⊢
    by_cases e : k' = k
    · simp [e]
      exact a
    · simpa [e] using ih
theorem keyT_at {c : List Nat} {μ : Mem} {t : T} {w : W} {k : Key} (d : Dt lk c μ t w) (e : keyT t = some k) : keyW w = some k := by
  cases t with
  | int i => obtain rfl := Zfb d; exact e
  | str i => obtain rfl := Zgy d; exact e
  | _ => cases e
noncomputable def intT : T → Option Int
  | .int i => some i
  | _ => none
noncomputable def strT : T → Option Str
  | .str x => some x
  | _ => none
theorem intT_at {c : List Nat} {μ : Mem} {t : T} {w : W} {i : Int} (d : Dt lk c μ t w) (e : intT t = some i) : w = .int i := by
  cases t with
  | int j => cases e; exact Zfb d
  | _ => cases e
theorem strT_at {c : List Nat} {μ : Mem} {t : T} {w : W} {i : Str} (d : Dt lk c μ t w) (e : strT t = some i) : w = .str i := by
  cases t with
  | str j => cases e; exact Zgy d
  | _ => cases e
theorem Zks {α : Type} {Q : List Nat → Mem → T → α → Prop} {c : List Nat} {μ : Mem} {r : Rs α} {o : Option (T × Sd)} (h : ∀ t s, o = some (t, s) → RR lk Q c μ r (.ok t s)) : RR lk Q c μ r (Zbw o) := by
  cases o with
  | none => exact True.intro
  | some p => exact h p.1 p.2 rfl
noncomputable def yIx : DP2 := fun x y s => match ob s x with
  | some (.dic kvs) => (keyT y).bind fun k => (valT kvs k).map fun t => (t, s)
  | some _ => (seqT s x).bind fun ts => (intT y).bind fun i => (atI ts i).map fun t => (t, s)
  | none => (strT x).bind fun z => (intT y).bind fun i => if z.length ≤ LIM then (atI z.cps.toList i).map fun k => (.str ⟨#[k]⟩, s) else none
theorem at_dt {c : List Nat} {μ : Mem} {ts : List T} {ws : List W} (r : DtL lk c μ ts ws) {i : Int} {t : T} (h : atI ts i = some t) : ∃ w, atI ws i = some w ∧ Dt lk c μ t w := by
  unfold atI at h ⊢
  rw [r.length]
  obtain ⟨j, e1, e2⟩ := Option.bind_eq_some_iff.mp h
  obtain ⟨w, e3, e4⟩ := dtl_get r e2
  exact ⟨w, Option.bind_eq_some_iff.mpr ⟨j, e1, e3⟩, e4⟩
theorem Zen {c : List Nat} {μ : Mem} {s : Sd} {o : Option (W × Mem)} {t : T} (h : CO lk c μ s) {w : W} (e : o = some (w, μ)) (d : Dt lk c μ t w) : RR lk (Dt lk) c μ (lift o) (.ok t s) := by
  rw [e]
  exact Zdr h d
theorem Ze5 : ROp lk pIx yIx := by
  intro c μ s x y tx ty h dx dy
  refine Zks fun t s' e => ?_
  unfold yIx at e
  split at e
  · rename_i kvs e1
    obtain ⟨k, e2, e3⟩ := Option.bind_eq_some_iff.mp e
    obtain ⟨t', e4, e5⟩ := Option.map_eq_some_iff.mp e3
    cases e5
    obtain ⟨l, u, rfl, a, ws, hu, r⟩ := Ze3 h dx e1
    obtain ⟨w, e6, d⟩ := (Zna r).1 _ e4
    have e7 := keyT_at dy e2
    refine Zen h ?_ d
    rcases hu with rfl | ⟨_, rfl⟩ <;> simp [pIx, pIxQ, por, pIxL, pIxT, pIxS, pIxD, getR, getT, getE, a, e6, e7]
  · obtain ⟨ts, e2, e3⟩ := Option.bind_eq_some_iff.mp e
    obtain ⟨i, e4, e5⟩ := Option.bind_eq_some_iff.mp e3
    obtain ⟨t', e6, e7⟩ := Option.map_eq_some_iff.mp e5
    cases e7
    obtain rfl := intT_at dy e4
    obtain ⟨ws, e8, r⟩ := seqT_at h dx e2
    obtain ⟨w, e9, d⟩ := at_dt r e6
    refine Zen h ?_ d
    unfold seqW at e8
    split at e8
    · rename_i ys e10
      cases e8
      simp [pIx, pIxQ, por, pIxL, e10, e9]
    · rename_i e10
      simp [pIx, pIxQ, por, pIxL, pIxT, e10, e8, e9]
  · obtain ⟨z, e2, e3⟩ := Option.bind_eq_some_iff.mp e
    obtain ⟨i, e4, e5⟩ := Option.bind_eq_some_iff.mp e3
    split at e5
    · rename_i hl
      obtain ⟨k, e6, e7⟩ := Option.map_eq_some_iff.mp e5
      cases e7
      obtain rfl := intT_at dy e4
      obtain rfl := strT_at dx e2
      exact Zen h (by simp [pIx, pIxQ, por, pIxL, pIxT, pIxS, getR, getT, hl, e6]) (Zhx _)
    · cases e5
end Vs
/-! Trees and cells: equality and membership. -/
namespace Vs
open PySem L2
variable {lk : Option Nat}
noncomputable def fl : T → Option W
  | .non => some .non
  | .bl b => some (.bl b)
  | .int i => some (.int i)
  | .str x => some (.str x)
  | _ => none
theorem Zj2 {c : List Nat} {μ : Mem} {t : T} {w a : W} (d : Dt lk c μ t w) (e : fl t = some a) : w = a := by
  cases t with
  | non => cases e; exact Zi0 d
  | bl b => cases e; exact Zjf d
  | int b => cases e; exact Zfb d
  | str b => cases e; exact Zgy d
  | _ => cases e
theorem fl_no {c : List Nat} {μ : Mem} {t : T} {w : W} (d : Dt lk c μ t w) (e : fl t = none) : ∃ l, w = .loc l := by
  cases t with
  | non => cases e
  | bl b => cases e
  | int b => cases e
  | str b => cases e
  | cell k => unfold Dt at d; obtain ⟨l, _, h⟩ := d; exact ⟨l, h⟩
  | lst ts => unfold Dt at d; obtain ⟨l, _, h, _⟩ := d; exact ⟨l, h⟩
  | tup ts => unfold Dt at d; obtain ⟨l, _, h, _⟩ := d; exact ⟨l, h⟩
  | dic ts => unfold Dt at d; obtain ⟨l, _, h, _⟩ := d; exact ⟨l, h⟩
  | ins n ts => unfold Dt at d; obtain ⟨l, _, h, _⟩ := d; exact ⟨l, h⟩
  | exn n t => unfold Dt at d; obtain ⟨l, _, _, _, h, _⟩ := d; exact ⟨l, h⟩
theorem fl_flat {t : T} {a : W} (e : fl t = some a) : Zkj a = true := by
  cases t <;> first | (cases e; rfl) | cases e
noncomputable def Zg0 (g : T → Option PyData) : List T → Option (List PyData)
  | [] => some []
  | t :: ts => (g t).bind fun u => (Zg0 g ts).map fun us => u :: us
noncomputable def Zhu (s : Sd) : Nat → T → Option PyData
  | 0, t => match t with
    | .non => some .none
    | .bl b => some (.bool b)
    | .int i => some (.int i)
    | .str x => some (.str x)
    | _ => none
  | n + 1, t => match ob s t with
    | some (.lst ts) => (Zg0 (Zhu s n) ts).map .list
    | some (.tup ts) => (Zg0 (Zhu s n) ts).map .tuple
    | some (.scr ns) => some (.list (ns.map .int))
    | some _ => none
    | none => match t with
      | .non => some .none
      | .bl b => some (.bool b)
      | .int i => some (.int i)
      | .str x => some (.str x)
      | _ => none
theorem deepT_at {c : List Nat} {μ : Mem} {s : Sd} (h : CO lk c μ s) (n : Nat) : (∀ {t : T} {w : W} {d : PyData}, Dt lk c μ t w → Zhu s n t = some d → deep μ n w = some d) ∧ ∀ {ts : List T} {ws : List W} {ds : List PyData}, DtL lk c μ ts ws → Zg0 (Zhu s n) ts = some ds → Zll μ n ws = some ds := by
  have lists : ∀ n, (∀ {t : T} {w : W} {d : PyData}, Dt lk c μ t w → Zhu s n t = some d → deep μ n w = some d) → ∀ {ts : List T} {ws : List W} {ds : List PyData}, DtL lk c μ ts ws → Zg0 (Zhu s n) ts = some ds → Zll μ n ws = some ds := by
    intro n one ts
    induction ts with
    | nil =>
      intro ws ds r e
      unfold DtL at r
      subst r
      unfold Zg0 at e
      unfold Zll
      exact e
    | cons t ts ih =>
      intro ws ds r e
      unfold DtL at r
      obtain ⟨v, vs, rfl, a, b⟩ := r
      unfold Zg0 at e
      obtain ⟨d, e1, e2⟩ := Option.bind_eq_some_iff.mp e
      obtain ⟨ds', e3, e4⟩ := Option.map_eq_some_iff.mp e2
      unfold Zll
      rw [one a e1, Option.bind_some, ih b e3, ← e4]
      rfl
  have flat : ∀ n {t : T} {w : W} {d : PyData}, Dt lk c μ t w → (match t with
      | .non => some .none
      | .bl b => some (.bool b)
      | .int i => some (.int i)
      | .str x => some (.str x)
      | _ => none) = some d → deep μ n w = some d := by
    intro n t w d r e
    cases t with
    | non => cases e; rw [Zi0 r]; unfold deep; rfl
    | bl b => cases e; rw [Zjf r]; unfold deep; rfl
    | int b => cases e; rw [Zfb r]; unfold deep; rfl
    | str b => cases e; rw [Zgy r]; unfold deep; rfl
    | _ => cases e
  induction n with
  | zero =>
    have one : ∀ {t : T} {w : W} {d : PyData}, Dt lk c μ t w → Zhu s 0 t = some d → deep μ 0 w = some d := fun r e => flat 0 r (by unfold Zhu at e; exact e)
    exact ⟨one, lists 0 one⟩
  | succ n ih =>
    have one : ∀ {t : T} {w : W} {d : PyData}, Dt lk c μ t w → Zhu s (n + 1) t = some d → deep μ (n + 1) w = some d := by
      intro t w d r e
      unfold Zhu at e
      split at e
      · rename_i ts e1
        obtain ⟨ds, e2, e3⟩ := Option.map_eq_some_iff.mp e
        obtain ⟨l, u, rfl, a, ws, rfl, q⟩ := Ze3 h r e1
        unfold deep
        rw [a]
        dsimp only
        rw [ih.2 q e2, ← e3]
        rfl
      · rename_i ts e1
        obtain ⟨ds, e2, e3⟩ := Option.map_eq_some_iff.mp e
        obtain ⟨l, u, rfl, a, ws, rfl, q⟩ := Ze3 h r e1
        unfold deep
        rw [a]
        dsimp only
        rw [ih.2 q e2, ← e3]
        rfl
      · rename_i ns e1
        obtain ⟨l, u, rfl, a, rfl⟩ := Ze3 h r e1
        unfold deep
        rw [a]
        exact e
      · cases e
      · exact flat (n + 1) r e
    exact ⟨one, lists (n + 1) one⟩
noncomputable def dvT (s : Sd) (t : T) : Option PyData := (Zhu s 60 t).bind fun d => if SeqAt.shaped d = true then some d else none
theorem dvT_at {c : List Nat} {μ : Mem} {s : Sd} (h : CO lk c μ s) {t : T} {w : W} {d : PyData} (r : Dt lk c μ t w) (e : dvT s t = some d) : dval μ w = some d := by
  unfold dvT at e
  obtain ⟨d', e1, e2⟩ := Option.bind_eq_some_iff.mp e
  unfold dval
  rw [(deepT_at h 60).1 r e1]
  exact e2
noncomputable def eqDicT (ks ls : List (Key × T)) : Bool := decide (ks.length = ls.length) && ks.all fun p => match fl p.2, (valT ls p.1).bind fl with
  | some a, some b => decide (a = b)
  | _, _ => false
theorem DtK.length {c : List Nat} {μ : Mem} : ∀ {ts : List (Key × T)} {ws : List (Key × W)}, DtK lk c μ ts ws → ws.length = ts.length
  | [], _, h => by unfold DtK at h; rw [h]; rfl
  | (k, t) :: ts, _, h => by
    unfold DtK at h
    obtain ⟨v, vs, rfl, _, b⟩ := h
    rw [List.length_cons, List.length_cons, b.length]
theorem eqDicT_at {c : List Nat} {μ : Mem} {ks ls : List (Key × T)} {vs us : List (Key × W)} (a : DtK lk c μ ks vs) (b : DtK lk c μ ls us) (e : eqDicT ks ls = true) : eqDic vs us = true := by
  unfold eqDicT at e
  obtain ⟨e1, e2⟩ := Bool.and_eq_true_iff.mp e
  unfold eqDic
  rw [a.length, b.length, e1, Bool.true_and]
  have key : ∀ {ks : List (Key × T)} {vs : List (Key × W)}, DtK lk c μ ks vs → (ks.all fun p => match fl p.2, (valT ls p.1).bind fl with | some a, some b => decide (a = b) | _, _ => false) = true → (vs.all fun p => decide (valW us p.1 = some p.2) && Zkj p.2) = true := by
    intro ks
    induction ks with
    | nil =>
      intro vs a _
      unfold DtK at a
      subst a
      rfl
    | cons p ks ih =>
      intro vs a e
      obtain ⟨k, t⟩ := p
      unfold DtK at a
      obtain ⟨v, vs, rfl, x, y⟩ := a
      rw [List.all_cons] at e ⊢
      obtain ⟨f1, f2⟩ := Bool.and_eq_true_iff.mp e
      rw [ih y f2, Bool.and_true]
      dsimp only at f1 ⊢
      split at f1
      · rename_i a' b' g1 g2
        obtain ⟨t', g3, g4⟩ := Option.bind_eq_some_iff.mp g2
        obtain ⟨w', g5, g6⟩ := (Zna b).1 t' g3
        have h1 := Zj2 x g1
        have h2 := Zj2 g6 g4
        subst h1 h2
        rw [g5, of_decide_eq_true f1, fl_flat g4]
        simp
      · cases f1
  exact key a e2

noncomputable def yEq : DP2 := fun x y s => match (fl x).bind fun a => (fl y).bind fun b => if scW a b = true then some (decide (a = b)) else none with
  | some k => some (.bl k, s)
  | none => match (dvT s x).bind fun d => (dvT s y).bind fun e => some (PyData.eqv d e) with
    | some k => some (.bl k, s)
    | none => match ob s x, ob s y with
      | some (.dic ks), some (.dic ls) => if eqDicT ks ls = true then some (.bl true, s) else none
      | _, _ => none
theorem ro_eq : ROp none pEq yEq := by
  intro c μ s x y tx ty h dx dy
  refine Zks fun t s' e => ?_
  unfold yEq at e
  split at e
  · rename_i k e1
    cases e
    obtain ⟨a, e2, e3⟩ := Option.bind_eq_some_iff.mp e1
    obtain ⟨b, e4, e5⟩ := Option.bind_eq_some_iff.mp e3
    split at e5
    · rename_i hs
      cases e5
      obtain rfl := Zj2 dx e2
      obtain rfl := Zj2 dy e4
      exact Zen h (by simp [pEq, por, pEqS, hs]) (Zgi _)
    · cases e5
  · rename_i e1
    have sc : scW x y = false := by
      cases ex : fl tx with
      | none =>
        obtain ⟨l, rfl⟩ := fl_no dx ex
        rfl
      | some a => cases ey : fl ty with
        | none =>
          obtain ⟨l, rfl⟩ := fl_no dy ey
          cases x <;> rfl
        | some b =>
          obtain rfl := Zj2 dx ex
          obtain rfl := Zj2 dy ey
          rw [ex, ey] at e1
          simpa using e1
    split at e
    · rename_i k e2
      cases e
      obtain ⟨d, e3, e4⟩ := Option.bind_eq_some_iff.mp e2
      obtain ⟨d', e5, e6⟩ := Option.bind_eq_some_iff.mp e4
      cases e6
      exact Zen h (by simp [pEq, por, pEqS, sc, pEqD, dvT_at h dx e3, dvT_at h dy e5]) (Zgi _)
    · split at e
      · rename_i ks ls e3 e4
        split at e
        · rename_i hc
          cases e
          obtain ⟨l1, u1, rfl, a1, ws1, hu1, r1⟩ := Ze3 h dx e3
          obtain ⟨l2, u2, rfl, a2, ws2, hu2, r2⟩ := Ze3 h dy e4
          obtain rfl : u1 = .dic ws1 := by rcases hu1 with z | ⟨z, _⟩; exact z; cases z
          obtain rfl : u2 = .dic ws2 := by rcases hu2 with z | ⟨z, _⟩; exact z; cases z
          have q := eqDicT_at r1 r2 hc
          have dn : dval μ (.loc l1) = none := by unfold dval deep; rw [a1]; rfl
          exact Zen h (by simp [pEq, por, pEqS, scW, pEqD, dn, pEqC, getD, a1, a2, q]) (Zgi _)
        · cases e
      · cases e

noncomputable def yNe : DP2 := fun x y s => match (fl x).bind fun a => (fl y).bind fun b => if scW a b = true then some (decide (a = b)) else none with
  | some k => some (.bl (!k), s)
  | none => match (dvT s x).bind fun d => (dvT s y).bind fun e => some (PyData.eqv d e) with
    | some k => some (.bl (!k), s)
    | none => match ob s x, ob s y with
      | some (.dic ks), some (.dic ls) => if eqDicT ks ls = true then some (.bl false, s) else none
      | _, _ => none
theorem Znt : ROp none pNe yNe := by
  intro c μ s x y tx ty h dx dy
  refine Zks fun t s' e => ?_
  unfold yNe at e
  split at e
  · rename_i k e1
    cases e
    obtain ⟨a, e2, e3⟩ := Option.bind_eq_some_iff.mp e1
    obtain ⟨b, e4, e5⟩ := Option.bind_eq_some_iff.mp e3
    split at e5
    · rename_i hs
      cases e5
      obtain rfl := Zj2 dx e2
      obtain rfl := Zj2 dy e4
      exact Zen h (by simp [pNe, por, pNeS, hs]) (Zgi _)
    · cases e5
  · rename_i e1
    have sc : scW x y = false := by
      cases ex : fl tx with
      | none =>
        obtain ⟨l, rfl⟩ := fl_no dx ex
        rfl
      | some a => cases ey : fl ty with
        | none =>
          obtain ⟨l, rfl⟩ := fl_no dy ey
          cases x <;> rfl
        | some b =>
          obtain rfl := Zj2 dx ex
          obtain rfl := Zj2 dy ey
          rw [ex, ey] at e1
          simpa using e1
    split at e
    · rename_i k e2
      cases e
      obtain ⟨d, e3, e4⟩ := Option.bind_eq_some_iff.mp e2
      obtain ⟨d', e5, e6⟩ := Option.bind_eq_some_iff.mp e4
      cases e6
      exact Zen h (by simp [pNe, por, pNeS, sc, pNeD, dvT_at h dx e3, dvT_at h dy e5]) (Zgi _)
    · split at e
      · rename_i ks ls e3 e4
        split at e
        · rename_i hc
          cases e
          obtain ⟨l1, u1, rfl, a1, ws1, hu1, r1⟩ := Ze3 h dx e3
          obtain ⟨l2, u2, rfl, a2, ws2, hu2, r2⟩ := Ze3 h dy e4
          obtain rfl : u1 = .dic ws1 := by rcases hu1 with z | ⟨z, _⟩; exact z; cases z
          obtain rfl : u2 = .dic ws2 := by rcases hu2 with z | ⟨z, _⟩; exact z; cases z
          have q := eqDicT_at r1 r2 hc
          have dn : dval μ (.loc l1) = none := by unfold dval deep; rw [a1]; rfl
          exact Zen h (by simp [pNe, por, pNeS, scW, pNeD, dn, pNeC, getD, a1, a2, q]) (Zgi _)
        · cases e
      · cases e

noncomputable def isNon : T → Bool
  | .non => true
  | _ => false
noncomputable def yIsN : DP2 := fun x y s => if isNon y = true then some (.bl (isNon x), s) else none
noncomputable def yNotN : DP2 := fun x y s => if isNon y = true then some (.bl (!isNon x), s) else none
/-- in -/
noncomputable def flats : List T → Option (List W)
  | [] => some []
  | t :: ts => (fl t).bind fun a => (flats ts).map fun l => a :: l
theorem flats_at {c : List Nat} {μ : Mem} : ∀ {ts : List T} {ws as : List W}, DtL lk c μ ts ws → flats ts = some as → ws = as ∧ as.all Zkj = true
  | [], _, _, h, e => by
    unfold DtL at h
    cases e
    exact ⟨h, rfl⟩
  | t :: ts, _, _, h, e => by
    unfold DtL at h
    obtain ⟨v, vs, rfl, a, b⟩ := h
    obtain ⟨w, e1, e2⟩ := Option.bind_eq_some_iff.mp e
    obtain ⟨l, e3, e4⟩ := Option.map_eq_some_iff.mp e2
    subst e4
    obtain ⟨f1, f2⟩ := flats_at b e3
    rw [Zj2 a e1, f1, List.all_cons, fl_flat e1, f2]
    exact ⟨rfl, rfl⟩
noncomputable def yIn (neg : Bool) : DP2 := fun x y s => match seqT s y with
  | some ts => (fl x).bind fun a => (flats ts).bind fun l => some (.bl (if neg then !inW a l else inW a l), s)
  | none => match ob s y with
    | some (.dic kvs) => (keyT x).bind fun k => some (.bl (if neg then !(valT kvs k).isSome else (valT kvs k).isSome), s)
    | _ => none
theorem ro_in {neg : Bool} : ROp lk (pIn neg) (yIn neg) := by
  intro c μ s x y tx ty h dx dy
  refine Zks fun t s' e => ?_
  unfold yIn at e
  split at e
  · rename_i ts e1
    obtain ⟨a, e2, e3⟩ := Option.bind_eq_some_iff.mp e
    obtain ⟨l, e4, e5⟩ := Option.bind_eq_some_iff.mp e3
    cases e5
    obtain rfl := Zj2 dx e2
    obtain ⟨ws, e6, r⟩ := seqT_at h dy e1
    obtain ⟨rfl, f⟩ := flats_at r e4
    exact Zen h (by unfold pIn por pInQ; rw [e6, Option.bind_some, fl_flat e2, f]; rfl) (Zgi _)
  · split at e
    · rename_i kvs e1
      obtain ⟨k, e2, e3⟩ := Option.bind_eq_some_iff.mp e
      cases e3
      obtain ⟨l, u, rfl, a, ws, hu, r⟩ := Ze3 h dy e1
      have e4 := keyT_at dx e2
      have e5 : (valW ws k).isSome = (valT kvs k).isSome := by
        cases ev : valT kvs k with
        | none => rw [(Zna r).2 ev]; rfl
        | some t =>
          obtain ⟨w, e6, _⟩ := (Zna r).1 t ev
          rw [e6]; rfl
      refine Zen h (w := .bl _) ?_ (Zgi _)
      rw [← e5]
      rcases hu with rfl | ⟨_, rfl⟩ <;> simp [pIn, por, pInQ, pInD, seqW, getR, getT, getE, a, e4]
    · cases e
end Vs
/-! Trees and cells: slices, built-in calls, isinstance. -/
namespace Vs
open PySem L2
variable {lk : Option Nat}
theorem Zmp {c : List Nat} {μ : Mem} {o : Option (W × Mem)} {w : W} {m : Mem} {d : Rd T} (e : o = some (w, m)) (h : RR lk (Dt lk) c μ (.ok w m) d) : RR lk (Dt lk) c μ (lift o) d := by rw [e]; exact h
/-! ### slices -/
noncomputable abbrev DO := Ed → Sd → Rd (Option Int)
noncomputable def Ziv : DO := fun _ s => .ok none s
noncomputable def Zft (e : DE) : DO := fun δ s => (e δ s).bind fun t s1 => match t with
  | .int i => .ok (some i) s1
  | _ => .bad
noncomputable def ROo (lk : Option Nat) (e : OM) (d : DO) : Prop := ∀ {c : List Nat} {μ : Mem} {σ : En} {δ : Ed} {s : Sd}, CO lk c μ s → SD lk c μ σ δ → RR lk (fun _ _ b a => a = b) c μ (e σ μ) (d δ s)
theorem Zk4 : ROo lk o_no Ziv := fun h _ => Zdr h rfl
theorem Zha {a : EM} {da : DE} (ha : RE lk a da) : ROo lk (Zjr a) (Zft da) := fun h sd => (ha h sd).bind fun tx s1 x μ1 c1 n1 h1 dx => by
  cases tx with
  | int i =>
    obtain rfl := Zfb dx
    exact Zdr h1 rfl
  | _ => exact True.intro
noncomputable def cutT (xs : List T) (lo hi : Option Int) : List T := (xs.drop (HT.sIx xs.length 0 lo)).take (HT.sIx xs.length xs.length hi - HT.sIx xs.length 0 lo)
theorem cut_dt {c : List Nat} {μ : Mem} {ts : List T} {ws : List W} (r : DtL lk c μ ts ws) (lo hi : Option Int) : DtL lk c μ (cutT ts lo hi) (cutW ws lo hi) := by
  unfold cutT cutW
  rw [r.length]
  exact dtl_take _ (dtl_drop _ r)
noncomputable def ySl (x : T) (lo hi : Option Int) (s : Sd) : Option (T × Sd) := match ob s x with
  | some (.lst ts) => some (.lst (cutT ts lo hi), s)
  | some (.scr ns) => some (.lst (cutT (ns.map T.int) lo hi), s)
  | some (.tup ts) => some (.tup (cutT ts lo hi), s)
  | some _ => none
  | none => (strT x).bind fun z => if z.length ≤ LIM then some (.str (cutS z lo hi), s) else none
noncomputable def x_sl (a : DE) (lo hi : DO) : DE := fun δ s => (a δ s).bind fun x s1 => (lo δ s1).bind fun l s2 => (hi δ s2).bind fun u s3 => Zbw (ySl x l u s3)
theorem cut_all {ts : List T} {lo hi : Option Int} (e : HT.sIx ts.length 0 lo = 0 ∧ HT.sIx ts.length ts.length hi = ts.length) : cutT ts lo hi = ts := by
  unfold cutT
  rw [e.1, e.2]
  simp
theorem r_sl {a : EM} {da : DE} {lo hi : OM} {dl dh : DO} (ha : RE lk a da) (hl : ROo lk lo dl) (hh : ROo lk hi dh) : RE lk (e_sl pSl a lo hi) (x_sl da dl dh) := fun h sd =>
  (ha h sd).bind fun tx s1 x μ1 c1 n1 h1 dx => (hl h1 (sd.mono n1)).bind fun l s2 l' μ2 c2 n2 h2 el => (hh h2 (sd.mono (n1.trans n2))).bind fun u s3 u' μ3 c3 n3 h3 eu => by
    subst el eu
    have d3 := (dx.mono n2).mono n3
    refine Zks fun t s' e => ?_
    unfold ySl at e
    split at e
    · rename_i ts e1
      cases e
      obtain ⟨l, v, rfl, a, ws, rfl, r⟩ := Ze3 h3 d3 e1
      exact Zmp (by simp [pSl, pSlL, getR, a]) (rr_lst h3 (cut_dt r _ _))
    · rename_i ns e1
      cases e
      obtain ⟨l, v, rfl, a, rfl⟩ := Ze3 h3 d3 e1
      exact Zmp (by simp [pSl, pSlL, getR, a]) (rr_lst h3 (cut_dt (ints_dt ns) _ _))
    · rename_i ts e1
      cases e
      obtain rfl := ob_dt h3 d3 e1
      obtain ⟨l, v, rfl, a, ws, rfl, r⟩ := Ze3 h3 d3 e1
      by_cases q : HT.sIx ts.length 0 l' = 0 ∧ HT.sIx ts.length ts.length u' = ts.length
      · rw [cut_all q]
        exact Zen h3 (by simp [pSl, pSlL, pSlT, getR, getT, a, r.length, q]) d3
      · exact Zmp (by simp only [pSl, pSlL, pSlT, getR, getT, a, r.length, Option.map_none, Option.map_some, if_neg q]) (rr_tup h3 (cut_dt r _ _))
    · cases e
    · obtain ⟨z, e2, e3⟩ := Option.bind_eq_some_iff.mp e
      split at e3
      · rename_i hz
        cases e3
        obtain rfl := strT_at d3 e2
        exact Zen h3 (by simp [pSl, pSlL, pSlT, pSlS, getR, getT, hz]) (Zhx _)
      · cases e3
/-! ### built-in calls -/
theorem Zj9 {c : List Nat} {μ : Mem} {t : T} {ws : List W} (h : DtL lk c μ [t] ws) : ∃ w, ws = [w] ∧ Dt lk c μ t w := by
  unfold DtL at h
  obtain ⟨v, vs, rfl, a, b⟩ := h
  unfold DtL at b
  subst b
  exact ⟨v, rfl, a⟩
theorem two_dt {c : List Nat} {μ : Mem} {t u : T} {ws : List W} (h : DtL lk c μ [t, u] ws) : ∃ w v, ws = [w, v] ∧ Dt lk c μ t w ∧ Dt lk c μ u v := by
  unfold DtL at h
  obtain ⟨v, vs, rfl, a, b⟩ := h
  obtain ⟨w, rfl, b'⟩ := Zj9 b
  exact ⟨v, w, rfl, a, b'⟩
noncomputable def yLen : DPN := fun xs s => match xs with
  | [x] => match seqT s x with
    | some ts => some (.int ts.length, s)
    | none => match ob s x with
      | some (.dic kvs) => some (.int kvs.length, s)
      | _ => (strT x).bind fun z => if z.length ≤ LIM then some (.int z.length, s) else none
  | _ => none
theorem Zjx : ROn none pLen yLen := by
  intro c μ s x tx h dx
  refine Zks fun t s' e => ?_
  unfold yLen at e
  split at e
  · rename_i y
    obtain ⟨w, rfl, d⟩ := Zj9 dx
    split at e
    · rename_i ts e1
      cases e
      obtain ⟨ws, e2, r⟩ := seqT_at h d e1
      exact Zen h (by simp [pLen, porN, pLenQ, e2, r.length]) (Zfn _)
    · split at e
      · rename_i kvs e1
        cases e
        obtain ⟨l, u, rfl, a, ws, hu, r⟩ := Ze3 h d e1
        obtain rfl : u = .dic ws := by rcases hu with z | ⟨z, _⟩; exact z; cases z
        exact Zen h (by simp [pLen, porN, pLenQ, pLenS, pLenD, seqW, getR, getT, getD, a, r.length]) (Zfn _)
      · obtain ⟨z, e2, e3⟩ := Option.bind_eq_some_iff.mp e
        split at e3
        · rename_i hz
          cases e3
          obtain rfl := strT_at d e2
          exact Zen h (by simp [pLen, porN, pLenQ, pLenS, seqW, getR, getT, hz]) (Zfn _)
        · cases e3
  · cases e
noncomputable def keyO : Key → T
  | .inl i => .int i
  | .inr x => .str x
noncomputable def Zjq : DPN := fun xs s => match xs with
  | [x] => match seqT s x with
    | some ts => some (.lst ts, s)
    | none => match ob s x with
      | some (.dic kvs) => some (.lst (kvs.map fun p => keyO p.1), s)
      | _ => none
  | _ => none
theorem keys_dt {c : List Nat} {μ : Mem} : ∀ {ts : List (Key × T)} {ws : List (Key × W)}, DtK lk c μ ts ws → DtL lk c μ (ts.map fun p => keyO p.1) (ws.map fun p => keyOf p.1)
  | [], _, h => by
    unfold DtK at h
    subst h
    exact Zev
  | (k, t) :: ts, _, h => by
    unfold DtK at h
    obtain ⟨v, vs, rfl, _, b⟩ := h
    refine Zdj ?_ (keys_dt b)
    cases k with
    | inl i => exact Zfn i
    | inr x => exact Zhx x
theorem Zjg : ROn none Zh6 Zjq := by
  intro c μ s x tx h dx
  refine Zks fun t s' e => ?_
  unfold Zjq at e
  split at e
  · rename_i y
    obtain ⟨w, rfl, d⟩ := Zj9 dx
    split at e
    · rename_i ts e1
      cases e
      obtain ⟨ws, e2, r⟩ := seqT_at h d e1
      exact Zmp (by simp [Zh6, porN, pListQ, e2]) (rr_lst h r)
    · split at e
      · rename_i kvs e1
        cases e
        obtain ⟨l, u, rfl, a, ws, hu, r⟩ := Ze3 h d e1
        obtain rfl : u = .dic ws := by rcases hu with z | ⟨z, _⟩; exact z; cases z
        exact Zmp (by simp [Zh6, porN, pListQ, pListD, seqW, getR, getT, getD, a]) (rr_lst h (keys_dt r))
      · cases e
  · cases e
noncomputable def yTuple : DPN := fun xs s => match xs with
  | [x] => match ob s x with
    | some (.lst ts) => some (.tup ts, s)
    | some (.tup ts) => some (.tup ts, s)
    | _ => none
  | _ => none
theorem rn_tuple : ROn lk pTuple yTuple := by
  intro c μ s x tx h dx
  refine Zks fun t s' e => ?_
  unfold yTuple at e
  split at e
  · rename_i y
    obtain ⟨w, rfl, d⟩ := Zj9 dx
    split at e
    · rename_i ts e1
      cases e
      obtain ⟨l, u, rfl, a, ws, rfl, r⟩ := Ze3 h d e1
      exact Zmp (by simp [pTuple, getR, a]) (rr_tup h r)
    · rename_i ts e1
      cases e
      obtain rfl := ob_dt h d e1
      obtain ⟨l, u, rfl, a, ws, rfl, r⟩ := Ze3 h d e1
      exact Zen h (by simp [pTuple, getR, getT, a]) d
    · cases e
  · cases e
noncomputable def allBT : List T → Option (List Bool)
  | [] => some []
  | .bl b :: r => (allBT r).map fun l => b :: l
  | _ => none
noncomputable def allIT : List T → Option (List Int)
  | [] => some []
  | .int b :: r => (allIT r).map fun l => b :: l
  | _ => none
theorem allBT_at {c : List Nat} {μ : Mem} : ∀ {ts : List T} {ws : List W} {bs : List Bool}, DtL lk c μ ts ws → allBT ts = some bs → allB ws = some bs
  | [], _, _, h, e => by
    unfold DtL at h
    subst h
    exact e
  | t :: ts, _, _, h, e => by
    unfold DtL at h
    obtain ⟨v, vs, rfl, a, b⟩ := h
    cases t with
    | bl k =>
      obtain ⟨l, e1, e2⟩ := Option.map_eq_some_iff.mp e
      obtain rfl := Zjf a
      unfold allB
      rw [allBT_at b e1, ← e2]
      rfl
    | _ => cases e
theorem allIT_at {c : List Nat} {μ : Mem} : ∀ {ts : List T} {ws : List W} {bs : List Int}, DtL lk c μ ts ws → allIT ts = some bs → allI ws = some bs
  | [], _, _, h, e => by
    unfold DtL at h
    subst h
    exact e
  | t :: ts, _, _, h, e => by
    unfold DtL at h
    obtain ⟨v, vs, rfl, a, b⟩ := h
    cases t with
    | int k =>
      obtain ⟨l, e1, e2⟩ := Option.map_eq_some_iff.mp e
      obtain rfl := Zfb a
      unfold allI
      rw [allIT_at b e1, ← e2]
      rfl
    | _ => cases e
noncomputable def lstT (s : Sd) (t : T) : Option (List T) := match ob s t with
  | some (.lst ts) => some ts
  | _ => none
theorem Zki {c : List Nat} {μ : Mem} {s : Sd} {t : T} {w : W} {ts : List T} (h : CO lk c μ s) (d : Dt lk c μ t w) (e : lstT s t = some ts) : ∃ l ws, w = .loc l ∧ μ[l]? = some (.lst ws) ∧ DtL lk c μ ts ws := by
  unfold lstT at e
  split at e
  · rename_i us e1
    cases e
    obtain ⟨l, u, rfl, a, ws, rfl, r⟩ := Ze3 h d e1
    exact ⟨l, ws, rfl, a, r⟩
  · cases e
noncomputable def yAll : DPN := fun xs s => match xs with
  | [x] => (lstT s x).bind fun ts => (allBT ts).map fun bs => (.bl (bs.all id), s)
  | _ => none
noncomputable def ySum : DPN := fun xs s => match xs with
  | [x] => (lstT s x).bind fun ts => (allIT ts).map fun bs => (.int bs.sum, s)
  | _ => none
theorem rn_all : ROn lk pAll yAll := by
  intro c μ s x tx h dx
  refine Zks fun t s' e => ?_
  unfold yAll at e
  split at e
  · obtain ⟨w, rfl, d⟩ := Zj9 dx
    obtain ⟨ts, e1, e2⟩ := Option.bind_eq_some_iff.mp e
    obtain ⟨bs, e3, e4⟩ := Option.map_eq_some_iff.mp e2
    cases e4
    obtain ⟨l, ws, rfl, a, r⟩ := Zki h d e1
    exact Zen h (by unfold pAll getR; simp only [a]; rw [Option.bind_some, allBT_at r e3]; rfl) (Zgi _)
  · cases e
theorem rn_sum : ROn lk pSum ySum := by
  intro c μ s x tx h dx
  refine Zks fun t s' e => ?_
  unfold ySum at e
  split at e
  · obtain ⟨w, rfl, d⟩ := Zj9 dx
    obtain ⟨ts, e1, e2⟩ := Option.bind_eq_some_iff.mp e
    obtain ⟨bs, e3, e4⟩ := Option.map_eq_some_iff.mp e2
    cases e4
    obtain ⟨l, ws, rfl, a, r⟩ := Zki h d e1
    exact Zen h (by unfold pSum getR; simp only [a]; rw [Option.bind_some, allIT_at r e3]; rfl) (Zfn _)
  · cases e
noncomputable def yMax : DPN := fun xs s => match xs with
  | [.int i, .int j] => some (.int (if j > i then j else i), s)
  | [x] => (lstT s x).bind fun ts => (allIT ts).bind fun bs => if bs = [] then none else some (.int (maxI bs), s)
  | _ => none
theorem rn_max : ROn lk pMax yMax := by
  intro c μ s x tx h dx
  refine Zks fun t s' e => ?_
  unfold yMax at e
  split at e
  · cases e
    obtain ⟨w, v, rfl, d1, d2⟩ := two_dt dx
    obtain rfl := Zfb d1
    obtain rfl := Zfb d2
    exact Zen h rfl (Zfn _)
  · obtain ⟨w, rfl, d⟩ := Zj9 dx
    obtain ⟨ts, e1, e2⟩ := Option.bind_eq_some_iff.mp e
    obtain ⟨bs, e3, e4⟩ := Option.bind_eq_some_iff.mp e2
    split at e4
    · cases e4
    · rename_i ne
      cases e4
      obtain ⟨l, ws, rfl, a, r⟩ := Zki h d e1
      exact Zen h (by unfold pMax porN pMax2 pMaxL getR; simp only [a]; rw [Option.bind_some, allIT_at r e3, Option.bind_some, if_neg ne]) (Zfn _)
  · cases e
/-! ### isinstance -/
noncomputable def tyT (s : Sd) (t : T) : Option String := match ob s t with
  | some (.lst _) => some "list"
  | some (.tup _) => some "tuple"
  | some (.dic _) => some "dict"
  | some (.scr _) => some "list"
  | some (.ins _ _) => none
  | none => match t with
    | .non => some "NoneType"
    | .bl _ => some "bool"
    | .int _ => some "int"
    | .str _ => some "str"
    | _ => none
theorem tyT_at {c : List Nat} {μ : Mem} {s : Sd} {t : T} {w : W} {k : String} (h : CO lk c μ s) (d : Dt lk c μ t w) (e : tyT s t = some k) : tyW μ w = some k := by
  unfold tyT at e
  split at e
  · rename_i e1
    cases e
    obtain ⟨l, u, rfl, a, ws, rfl, r⟩ := Ze3 h d e1
    simp [tyW, a]
  · rename_i e1
    cases e
    obtain ⟨l, u, rfl, a, ws, rfl, r⟩ := Ze3 h d e1
    simp [tyW, a]
  · rename_i e1
    cases e
    obtain ⟨l, u, rfl, a, ws, hu, r⟩ := Ze3 h d e1
    rcases hu with rfl | ⟨_, rfl⟩ <;> simp [tyW, a]
  · rename_i e1
    cases e
    obtain ⟨l, u, rfl, a, rfl⟩ := Ze3 h d e1
    simp [tyW, a]
  · cases e
  · cases t with
    | non => cases e; rw [Zi0 d]; rfl
    | bl b => cases e; rw [Zjf d]; rfl
    | int b => cases e; rw [Zfb d]; rfl
    | str b => cases e; rw [Zgy d]; rfl
    | _ => cases e
noncomputable def Zhm (K : String) (a : DE) : DE := fun δ s => (a δ s).bind fun x s1 => match tyT s1 x with
  | some k => .ok (.bl (subT k K)) s1
  | none => .bad
theorem r_isT {K : String} {a : EM} {da : DE} (ha : RE lk a da) : RE lk (Zny K a) (Zhm K da) := fun h sd => (ha h sd).bind fun tx s1 x μ1 c1 n1 h1 dx => by
  cases e : tyT s1 tx with
  | none => simp only [e]; exact True.intro
  | some k =>
    simp only [e, tyT_at h1 dx e]
    exact Zdr h1 (Zgi _)
end Vs
/-! Trees and cells: freezing, targets, statements, loops. -/
namespace Vs
open PySem L2
variable {lk : Option Nat}
/-! ### cells of the number n and more become trees -/
noncomputable def trav (g : T → Option T) : List T → Option (List T)
  | [] => some []
  | t :: ts => (g t).bind fun u => (trav g ts).map fun us => u :: us
noncomputable def Zjd (g : T → Option T) : List (Key × T) → Option (List (Key × T))
  | [] => some []
  | (k, t) :: ts => (g t).bind fun u => (Zjd g ts).map fun us => (k, u) :: us
noncomputable def Zjj (g : T → Option T) : List (Str × T) → Option (List (Str × T))
  | [] => some []
  | (k, t) :: ts => (g t).bind fun u => (Zjj g ts).map fun us => (k, u) :: us
noncomputable def fr (n : Nat) (s : Sd) : Nat → T → Option T
  | 0, t => match t with
    | .cell k => if k < n then some (.cell k) else none
    | .non => some .non
    | .bl b => some (.bl b)
    | .int b => some (.int b)
    | .str b => some (.str b)
    | _ => none
  | f + 1, t => match t with
    | .cell k => if k < n then some (.cell k) else match s[k]? with
      | some (.lst ts) => (trav (fr n s f) ts).map .lst
      | some (.dic ts) => (Zjd (fr n s f) ts).map .dic
      | some (.ins i ts) => (Zjj (fr n s f) ts).map (.ins i)
      | _ => none
    | .non => some .non
    | .bl b => some (.bl b)
    | .int b => some (.int b)
    | .str b => some (.str b)
    | .lst ts => (trav (fr n s f) ts).map .lst
    | .tup ts => (trav (fr n s f) ts).map .tup
    | .dic ts => (Zjd (fr n s f) ts).map .dic
    | .ins i ts => (Zjj (fr n s f) ts).map (.ins i)
    | .exn i t => (fr n s f t).map (.exn i)
section
variable {c0 e : List Nat} {m : Mem} {s : Sd}
/-- what the freezing keeps, at one fuel -/
structure FrOk (lk : Option Nat) (c0 e : List Nat) (m : Mem) (s : Sd) (f : Nat) : Prop where
  one : ∀ {t t' : T} {w : W}, Dt lk (c0 ++ e) m t w → fr c0.length s f t = some t' → Dt lk c0 m t' w
theorem FrOk.list {f : Nat} (h : FrOk lk c0 e m s f) : ∀ {ts us : List T} {ws : List W}, DtL lk (c0 ++ e) m ts ws → trav (fr c0.length s f) ts = some us → DtL lk c0 m us ws
  | [], us, ws, d, q => by
    unfold trav at q
    cases q
    unfold DtL at d ⊢
    exact d
  | t :: ts, us, ws, d, q => by
    unfold trav at q
    obtain ⟨u, q1, q2⟩ := Option.bind_eq_some_iff.mp q
    obtain ⟨vs, q3, q4⟩ := Option.map_eq_some_iff.mp q2
    subst q4
    unfold DtL at d
    obtain ⟨v, ws', rfl, a, b⟩ := d
    exact Zdj (h.one a q1) (h.list b q3)
theorem FrOk.keys {f : Nat} (h : FrOk lk c0 e m s f) : ∀ {ts us : List (Key × T)} {ws : List (Key × W)}, DtK lk (c0 ++ e) m ts ws → Zjd (fr c0.length s f) ts = some us → DtK lk c0 m us ws
  | [], us, ws, d, q => by
    unfold Zjd at q
    cases q
    unfold DtK at d ⊢
    exact d
  | (k, t) :: ts, us, ws, d, q => by
    unfold Zjd at q
    obtain ⟨u, q1, q2⟩ := Option.bind_eq_some_iff.mp q
    obtain ⟨vs, q3, q4⟩ := Option.map_eq_some_iff.mp q2
    subst q4
    unfold DtK at d
    obtain ⟨v, ws', rfl, a, b⟩ := d
    unfold DtK
    exact ⟨v, ws', rfl, h.one a q1, h.keys b q3⟩
theorem FrOk.flds {f : Nat} (h : FrOk lk c0 e m s f) : ∀ {ts us : List (Str × T)} {ws : List (Str × W)}, DtF lk (c0 ++ e) m ts ws → Zjj (fr c0.length s f) ts = some us → DtF lk c0 m us ws
  | [], us, ws, d, q => by
    unfold Zjj at q
    cases q
    unfold DtF at d ⊢
    exact d
  | (k, t) :: ts, us, ws, d, q => by
    unfold Zjj at q
    obtain ⟨u, q1, q2⟩ := Option.bind_eq_some_iff.mp q
    obtain ⟨vs, q3, q4⟩ := Option.map_eq_some_iff.mp q2
    subst q4
    unfold DtF at d
    obtain ⟨v, ws', rfl, a, b⟩ := d
    unfold DtF
    exact ⟨v, ws', rfl, h.one a q1, h.flds b q3⟩
theorem Zkx {l : Nat} (h : l ∉ c0 ++ e) : l ∉ c0 := fun z => h (List.mem_append_left _ z)
theorem cell_out (hc : CO lk (c0 ++ e) m s) {k l : Nat} (hk : ¬ k < c0.length) (h : (c0 ++ e)[k]? = some l) : l ∉ c0 := by
  intro z
  obtain ⟨j, hj⟩ := List.mem_iff_getElem?.mp z
  have h1 : j < c0.length := (List.getElem?_eq_some_iff.mp hj).1
  have h2 : (c0 ++ e)[j]? = some l := by rw [List.getElem?_append_left h1]; exact hj
  obtain ⟨g1, g2⟩ := List.getElem?_eq_some_iff.mp h
  obtain ⟨g3, g4⟩ := List.getElem?_eq_some_iff.mp h2
  rcases Nat.lt_trichotomy j k with z | z | z
  · exact absurd (g4.trans g2.symm) (List.pairwise_iff_getElem.mp hc.nd j k g3 g1 z)
  · omega
  · omega
theorem fr_ok (hc : CO lk (c0 ++ e) m s) : ∀ f : Nat, FrOk lk c0 e m s f := by
  have low : ∀ {k : Nat} {w : W}, k < c0.length → Dt lk (c0 ++ e) m (.cell k) w → Dt lk c0 m (.cell k) w := fun {k w} hk d => by
    unfold Dt at d ⊢
    obtain ⟨l, a, b⟩ := d
    rw [List.getElem?_append_left hk] at a
    exact ⟨l, a, b⟩
  intro f
  induction f with
  | zero =>
    refine ⟨fun {t t' w} d q => ?_⟩
    cases t with
    | cell k =>
      unfold fr at q
      dsimp only at q
      split at q
      · rename_i hk
        cases q
        exact low hk d
      · cases q
    | non => unfold fr at q; cases q; rw [Zi0 d]; exact Zmi
    | bl b => unfold fr at q; cases q; rw [Zjf d]; exact Zgi _
    | int b => unfold fr at q; cases q; rw [Zfb d]; exact Zfn _
    | str b => unfold fr at q; cases q; rw [Zgy d]; exact Zhx _
    | _ => unfold fr at q; cases q
  | succ f ih =>
    refine ⟨fun {t t' w} d q => ?_⟩
    cases t with
    | cell k =>
      unfold fr at q
      dsimp only at q
      split at q
      · rename_i hk
        cases q
        exact low hk d
      · rename_i hk
        unfold Dt at d
        obtain ⟨l, a, rfl⟩ := d
        have hl := cell_out hc hk a
        split at q
        · rename_i ts hs
          obtain ⟨us, q1, q2⟩ := Option.map_eq_some_iff.mp q
          subst q2
          obtain ⟨u, b, ws, rfl, r⟩ := hc.ob k l _ a hs
          unfold Dt
          exact ⟨l, ws, rfl, hl, b, ih.list r q1⟩
        · rename_i ts hs
          obtain ⟨us, q1, q2⟩ := Option.map_eq_some_iff.mp q
          subst q2
          obtain ⟨u, b, ws, rfl, r⟩ := hc.ob k l _ a hs
          unfold Dt
          exact ⟨l, ws, rfl, hl, .inl b, ih.keys r q1⟩
        · rename_i i ts hs
          obtain ⟨us, q1, q2⟩ := Option.map_eq_some_iff.mp q
          subst q2
          obtain ⟨u, b, ws, rfl, r⟩ := hc.ob k l _ a hs
          unfold Dt
          exact ⟨l, ws, rfl, hl, b, ih.flds r q1⟩
        · cases q
    | non => unfold fr at q; cases q; rw [Zi0 d]; exact Zmi
    | bl b => unfold fr at q; cases q; rw [Zjf d]; exact Zgi _
    | int b => unfold fr at q; cases q; rw [Zfb d]; exact Zfn _
    | str b => unfold fr at q; cases q; rw [Zgy d]; exact Zhx _
    | lst ts =>
      unfold fr at q
      obtain ⟨us, q1, q2⟩ := Option.map_eq_some_iff.mp q
      subst q2
      unfold Dt at d ⊢
      obtain ⟨l, ws, rfl, a, b, r⟩ := d
      exact ⟨l, ws, rfl, Zkx a, b, ih.list r q1⟩
    | tup ts =>
      unfold fr at q
      obtain ⟨us, q1, q2⟩ := Option.map_eq_some_iff.mp q
      subst q2
      unfold Dt at d ⊢
      obtain ⟨l, ws, rfl, a, b, r⟩ := d
      exact ⟨l, ws, rfl, Zkx a, b, ih.list r q1⟩
    | dic ts =>
      unfold fr at q
      obtain ⟨us, q1, q2⟩ := Option.map_eq_some_iff.mp q
      subst q2
      unfold Dt at d ⊢
      obtain ⟨l, ws, rfl, a, b, r⟩ := d
      exact ⟨l, ws, rfl, Zkx a, b, ih.keys r q1⟩
    | ins i ts =>
      unfold fr at q
      obtain ⟨us, q1, q2⟩ := Option.map_eq_some_iff.mp q
      subst q2
      unfold Dt at d ⊢
      obtain ⟨l, ws, rfl, a, b, r⟩ := d
      exact ⟨l, ws, rfl, Zkx a, b, ih.flds r q1⟩
    | exn i t =>
      unfold fr at q
      obtain ⟨u, q1, q2⟩ := Option.map_eq_some_iff.mp q
      subst q2
      unfold Dt at d ⊢
      obtain ⟨l, dl, f', v, rfl, a, a2, b, b2, r⟩ := d
      exact ⟨l, dl, f', v, rfl, Zkx a, Zkx a2, b, b2, ih.one r q1⟩
end
noncomputable abbrev FU : Nat := 30
noncomputable def frO (n : Nat) (s : Sd) : TO → Option TO
  | .lst ts => (trav (fr n s FU) ts).map .lst
  | .dic ts => (Zjd (fr n s FU) ts).map .dic
  | .ins i ts => (Zjj (fr n s FU) ts).map (.ins i)
  | .scr ns => some (.scr ns)
noncomputable def frS (n : Nat) (s : Sd) : List TO → Option Sd
  | [] => some []
  | o :: r => (frO n s o).bind fun u => (frS n s r).map fun us => u :: us
theorem frS_get {n : Nat} {s : Sd} : ∀ {os us : List TO}, frS n s os = some us → us.length = os.length ∧ ∀ (k : Nat) (o : TO), us[k]? = some o → ∃ o', os[k]? = some o' ∧ frO n s o' = some o
  | [], us, h => by
    cases h
    exact ⟨rfl, fun k o e => by simp at e⟩
  | o :: r, us, h => by
    obtain ⟨u, e1, e2⟩ := Option.bind_eq_some_iff.mp h
    obtain ⟨vs, e3, e4⟩ := Option.map_eq_some_iff.mp e2
    subst e4
    obtain ⟨i1, i2⟩ := frS_get e3
    refine ⟨by simp [i1], fun k o' e => ?_⟩
    cases k with
    | zero => simp at e; subst e; exact ⟨o, rfl, e1⟩
    | succ k => simpa using i2 k o' (by simpa using e)
/-- back to n cells -/
noncomputable def pop {α : Type} (n : Nat) (f : Sd → α → Option α) : Rd α → Rd α
  | .ok t s => match f s t, frS n s (s.take n) with
    | some t', some s' => .ok t' s'
    | _, _ => .bad
  | _ => .bad
theorem CO.pop {c0 e : List Nat} {m : Mem} {s s' : Sd} (h : CO lk (c0 ++ e) m s) (q : frS c0.length s (s.take c0.length) = some s') : CO lk c0 m s' := by
  obtain ⟨q1, q2⟩ := frS_get q
  have hl := h.len
  have hn : c0.length ≤ s.length := by rw [← hl]; simp
  refine ⟨by rw [q1, List.length_take]; omega, (List.nodup_append.mp h.nd).1, fun k l o a b => ?_⟩
  have hk : k < c0.length := (List.getElem?_eq_some_iff.mp a).1
  obtain ⟨o', e1, e2⟩ := q2 k o b
  rw [List.getElem?_take, if_pos hk] at e1
  obtain ⟨u, e3, d⟩ := h.ob k l o' (by rw [List.getElem?_append_left hk]; exact a) e1
  refine ⟨u, e3, ?_⟩
  have F := fr_ok h FU
  cases o' with
  | lst ts =>
    obtain ⟨us, g1, g2⟩ := Option.map_eq_some_iff.mp e2
    subst g2
    obtain ⟨ws, rfl, r⟩ := d
    exact ⟨ws, rfl, F.list r g1⟩
  | dic ts =>
    obtain ⟨us, g1, g2⟩ := Option.map_eq_some_iff.mp e2
    subst g2
    obtain ⟨ws, rfl, r⟩ := d
    exact ⟨ws, rfl, F.keys r g1⟩
  | ins i ts =>
    obtain ⟨us, g1, g2⟩ := Option.map_eq_some_iff.mp e2
    subst g2
    obtain ⟨ws, rfl, r⟩ := d
    exact ⟨ws, rfl, F.flds r g1⟩
  | scr ns =>
    cases e2
    exact d
theorem Nx.pop {c c' : List Nat} {μ m : Mem} (x : Nx c μ c' m) : Nx c μ c m := ⟨⟨[], by simp, fun l h => by cases h⟩, x.kp, x.len⟩
theorem rr_pop {c : List Nat} {μ : Mem} {s0 : Sd} {r : Rs W} {d : Rd T} (h0 : CO lk c μ s0) (h : RR lk (Dt lk) c μ r d) : RR lk (Dt lk) c μ r (pop s0.length (fun s t => fr s0.length s FU t) d) := by
  cases d with
  | bad => exact True.intro
  | exc n t s => exact True.intro
  | ok t s =>
    obtain ⟨w, m, c', rfl, x, o, q⟩ := h
    unfold pop
    dsimp only
    split
    · rename_i t' s' e1 e2
      obtain ⟨e, rfl, he⟩ := x.gr
      rw [← h0.len] at e1 e2
      exact ⟨w, m, c, rfl, x.pop, o.pop e2, (fr_ok o FU).one q e1⟩
    · exact True.intro
end Vs
/-! Trees and cells: targets, statements, defs, loops. -/
namespace Vs
open PySem L2
variable {lk : Option Nat}
theorem Zhn {c : List Nat} {μ : Mem} {w : Option W} {t : Option T} (r : SDr lk c μ w t) : ∀ {σ : En} {δ : Ed} (i : Nat), SD lk c μ σ δ → SD lk c μ (σ.set i w) (δ.set i t)
  | _, _, _, .nil => .nil
  | _, _, 0, .cons q z => .cons r z
  | _, _, n + 1, .cons q z => .cons q (Zhn r n z)
theorem Zg8 {c : List Nat} {μ : Mem} {t : T} {w : W} (d : Dt lk c μ t w) : SDr lk c μ (some w) (some t) := ⟨w, rfl, d⟩
/-! ### targets -/
noncomputable abbrev DG := T → Ed → Option Ed
noncomputable abbrev DGs := List T → Ed → Option Ed
noncomputable def xg_n (i : Nat) : DG := fun t δ => some (δ.set i (some t))
noncomputable def xg_nil : DGs := fun ts δ => match ts with
  | [] => some δ
  | _ => none
noncomputable def xg_cons (g : DG) (r : DGs) : DGs := fun ts δ => match ts with
  | t :: ts => (g t δ).bind fun δ1 => r ts δ1
  | [] => none
noncomputable def xg_tup (n : Nat) (g : DGs) : DG := fun t δ => match t with
  | .tup xs => if xs.length = n then g xs δ else none
  | _ => none
noncomputable def xg_unl (n : Nat) (g : DGs) : DG := fun t δ => match t with
  | .lst xs => if xs.length = n then g xs δ else none
  | _ => none
noncomputable def RG (lk : Option Nat) (g : GM) (d : DG) : Prop := ∀ {c : List Nat} {μ : Mem} {t : T} {w : W} {σ : En} {δ δ' : Ed}, Dt lk c μ t w → SD lk c μ σ δ → d t δ = some δ' → ∃ σ', g w σ μ = some σ' ∧ SD lk c μ σ' δ'
theorem rg_n (i : Nat) : RG lk (g_n i) (xg_n i) := fun d sd e => by
  cases e
  exact ⟨_, rfl, Zhn (Zg8 d) i sd⟩
/-! ### statements -/
inductive DFl where
  | nx (δ : Ed) | rt (t : T) | bk (δ : Ed) | ct (δ : Ed)
noncomputable abbrev DSt := Ed → Sd → Rd DFl
noncomputable def FlR (lk : Option Nat) (c : List Nat) (μ : Mem) : DFl → Fl → Prop
  | .nx δ, f => ∃ σ, f = .nx σ ∧ SD lk c μ σ δ
  | .bk δ, f => ∃ σ, f = .bk σ ∧ SD lk c μ σ δ
  | .ct δ, f => ∃ σ, f = .ct σ ∧ SD lk c μ σ δ
  | .rt t, f => ∃ w, f = .rt w ∧ Dt lk c μ t w
noncomputable def RSt (lk : Option Nat) (b : SM) (d : DSt) : Prop := ∀ {c : List Nat} {μ : Mem} {σ : En} {δ : Ed} {s : Sd}, CO lk c μ s → SD lk c μ σ δ → RR lk (FlR lk) c μ (b σ μ) (d δ s)
noncomputable def Zei : DSt := fun δ s => .ok (.nx δ) s
noncomputable def Zar (a b : DSt) : DSt := fun δ s => (a δ s).bind fun f s1 => match f with
  | .nx δ1 => b δ1 s1
  | f => .ok f s1
noncomputable def Zb4 (e : DE) (g : DG) : DSt := fun δ s => (e δ s).bind fun t s1 => match g t δ with
  | some δ1 => .ok (.nx δ1) s1
  | none => .bad
noncomputable def Zde (e : DE) : DSt := fun δ s => (e δ s).bind fun t s1 => .ok (.rt t) s1
noncomputable def xs_retN : DSt := fun _ s => .ok (.rt .non) s
noncomputable def Zf6 (t : DTm) (a b : DSt) : DSt := fun δ s => (t δ s).bind fun k s1 => if k = true then a δ s1 else b δ s1
noncomputable def Zm3 (e : DE) : DSt := fun δ s => (e δ s).bind fun _ s1 => .ok (.nx δ) s1
noncomputable def xs_brk : DSt := fun δ s => .ok (.bk δ) s
noncomputable def xs_cnt : DSt := fun δ s => .ok (.ct δ) s
noncomputable def Zmh : DSt := fun _ _ => .bad
noncomputable def dturn (k : Ed → Sd → Rd DFl) : DFl → Sd → Rd DFl
  | .nx δ, s => k δ s
  | .ct δ, s => k δ s
  | .bk δ, s => .ok (.nx δ) s
  | .rt t, s => .ok (.rt t) s
section
variable {e : EM} {de : DE} {t : TM} {dt : DTm} {a b : SM} {da db : DSt} {g : GM} {dg : DG}
theorem Zfd : RSt lk Ze4 Zei := fun h sd => Zdr h ⟨_, rfl, sd⟩
theorem rs_never : RSt lk Zku Zmh := fun _ _ => True.intro
theorem Zeh (he : RE lk e de) : RSt lk (Zet e) (Zde de) := fun h sd => (he h sd).bind fun tx s1 x μ1 c1 n1 h1 dx => Zdr h1 ⟨_, rfl, dx⟩
theorem rs_ex (he : RE lk e de) : RSt lk (s_ex e) (Zm3 de) := fun h sd => (he h sd).bind fun tx s1 x μ1 c1 n1 h1 dx => Zdr h1 ⟨_, rfl, sd.mono n1⟩
theorem Zeg (he : RE lk e de) (hg : RG lk g dg) : RSt lk (Zes e g) (Zb4 de dg) := fun {c μ σ δ s} h sd => (he h sd).bind fun tx s1 x μ1 c1 n1 h1 dx => by
  cases q : dg tx δ with
  | none => simp only [q]; exact True.intro
  | some δ1 =>
    obtain ⟨σ1, e1, sd1⟩ := hg dx (sd.mono n1) q
    simp only [q, e1]
    exact Zdr h1 ⟨_, rfl, sd1⟩
theorem Zb9 (ha : RSt lk a da) (hb : RSt lk b db) : RSt lk (Zcg a b) (Zar da db) := fun h sd => (ha h sd).bind fun f s1 x μ1 c1 n1 h1 dx => by
  cases f with
  | nx δ1 =>
    obtain ⟨σ1, rfl, sd1⟩ := dx
    exact hb h1 sd1
  | rt t =>
    obtain ⟨w, rfl, d⟩ := dx
    exact Zdr h1 ⟨w, rfl, d⟩
  | bk δ1 =>
    obtain ⟨σ1, rfl, sd1⟩ := dx
    exact Zdr h1 ⟨σ1, rfl, sd1⟩
  | ct δ1 =>
    obtain ⟨σ1, rfl, sd1⟩ := dx
    exact Zdr h1 ⟨σ1, rfl, sd1⟩
theorem Zit (ht : RT lk t dt) (ha : RSt lk a da) (hb : RSt lk b db) : RSt lk (s_if t a b) (Zf6 dt da db) := fun h sd => (ht h sd).bind fun k s1 k' μ1 c1 n1 h1 e => by
  subst e
  split
  · exact ha h1 (sd.mono n1)
  · exact hb h1 (sd.mono n1)
theorem rr_turn {k : En → Mem → Rs Fl} {dk : Ed → Sd → Rd DFl} {c : List Nat} {μ : Mem} {s : Sd} {f : DFl} {x : Fl} (h : CO lk c μ s) (d : FlR lk c μ f x) (hk : ∀ {σ : En} {δ : Ed}, SD lk c μ σ δ → RR lk (FlR lk) c μ (k σ μ) (dk δ s)) : RR lk (FlR lk) c μ (turn k x μ) (dturn dk f s) := by
  cases f with
  | nx δ1 =>
    obtain ⟨σ1, rfl, sd1⟩ := d
    exact hk sd1
  | ct δ1 =>
    obtain ⟨σ1, rfl, sd1⟩ := d
    exact hk sd1
  | rt t =>
    obtain ⟨w, rfl, d⟩ := d
    exact Zdr h ⟨w, rfl, d⟩
  | bk δ1 =>
    obtain ⟨σ1, rfl, sd1⟩ := d
    exact Zdr h ⟨σ1, rfl, sd1⟩
end
/-! ### a def: its own cells freeze at the end -/
noncomputable def Ze8 (k : Nat) (b : DSt) : DFn := fun ts s => pop s.length (fun s1 t => fr s.length s1 FU t) ((b (ts.map some ++ List.replicate (k - ts.length) none) s).bind fun f s1 => match f with
  | .rt t => .ok t s1
  | .nx _ => .ok .non s1
  | _ => .bad)

end Vs
/-! Trees and cells: defs, loops, comprehensions. -/
namespace Vs
open PySem L2
variable {lk : Option Nat}
theorem Zma {c : List Nat} {μ : Mem} {k : Nat} : ∀ {ts : List T} {ws : List W}, DtL lk c μ ts ws → SD lk c μ (ws.map some ++ List.replicate (k - ws.length) none) (ts.map some ++ List.replicate (k - ts.length) none) := by
  intro ts ws h
  rw [h.length]
  have nones : ∀ n : Nat, SD lk c μ (List.replicate n none) (List.replicate n none) := by
    intro n
    induction n with
    | zero => exact .nil
    | succ n ih => exact .cons True.intro ih
  have go : ∀ {n : Nat} {ts : List T} {ws : List W}, DtL lk c μ ts ws → SD lk c μ (ws.map some ++ List.replicate n none) (ts.map some ++ List.replicate n none) := by
    intro n ts
    induction ts with
    | nil =>
      intro ws h
      unfold DtL at h
      subst h
      exact nones n
    | cons t ts ih =>
      intro ws h
      unfold DtL at h
      obtain ⟨v, vs, rfl, a, b⟩ := h
      exact .cons (Zg8 a) (ih b)
  exact go h
theorem Zfa {k : Nat} {b : SM} {db : DSt} (hb : RSt none b db) : RF (fnOf k b) (Ze8 k db) := by
  intro lk e c μ ws ts s h d
  subst e
  unfold Ze8 fnOf
  refine rr_pop h ((hb h (Zma d)).bind fun f s1 x μ1 c1 n1 h1 dx => ?_)
  cases f with
  | nx δ1 =>
    obtain ⟨σ1, rfl, sd1⟩ := dx
    exact Zdr h1 Zmi
  | rt t =>
    obtain ⟨w, rfl, d⟩ := dx
    exact Zdr h1 d
  | _ => exact True.intro
/-! ### iterables -/
/-- the items and whether they come with their numbers -/
noncomputable abbrev DI := Ed → Sd → Rd (List T × Bool)
noncomputable def ItR (lk : Option Nat) (c : List Nat) (μ : Mem) (d : List T × Bool) (it : ItD) : Prop := it.pr = d.2 ∧ DtL lk c μ d.1 it.xs ∧ ∀ (c' : List Nat) (m : Mem), Nx c μ c' m → it.chk m = true
noncomputable def RI (lk : Option Nat) (I : IM) (d : DI) : Prop := ∀ {c : List Nat} {μ : Mem} {σ : En} {δ : Ed} {s : Sd}, CO lk c μ s → SD lk c μ σ δ → RR lk (ItR lk) c μ (I σ μ) (d δ s)
noncomputable def Zff (e : DE) : DI := fun δ s => (e δ s).bind fun t s1 => match t with
  | .lst ts => .ok (ts, false) s1
  | .tup ts => .ok (ts, false) s1
  | _ => .bad
noncomputable def xn_enu (e : DE) : DI := fun δ s => (e δ s).bind fun t s1 => match t with
  | .lst ts => .ok (ts, true) s1
  | _ => .bad
noncomputable def ranT (n : Nat) : List T := (List.range n).map fun i => .int (i : Nat)
noncomputable def Zgu (e : DE) : DI := fun δ s => (e δ s).bind fun t s1 => match t with
  | .int j => if cRng j = true then .ok (ranT j.toNat, false) s1 else .bad
  | _ => .bad
noncomputable def xn_str (e : DE) : DI := fun δ s => (e δ s).bind fun t s1 => match t with
  | .str z => .ok (z.cps.toList.map fun c => .str ⟨#[c]⟩, false) s1
  | _ => .bad
section
variable {e : EM} {de : DE}
theorem Zi1 (he : RE lk e de) : RI lk (Zhd e) (Zff de) := fun h sd => (he h sd).bind fun tx s1 x μ1 c1 n1 h1 dx => by
  cases tx with
  | lst ts =>
    unfold Dt at dx
    obtain ⟨l, ws, rfl, hl, a, r⟩ := dx
    simp only [getR, a]
    exact Zdr h1 ⟨rfl, r, fun c' m x => by simp [chkL, getR, x.kp l _ hl a]⟩
  | tup ts =>
    unfold Dt at dx
    obtain ⟨l, ws, rfl, hl, a, r⟩ := dx
    simp only [getR, getT, a]
    exact Zdr h1 ⟨rfl, r, fun c' m x => by simp [chkT, getT, x.kp l _ hl a]⟩
  | _ => exact True.intro
theorem ints_map {c : List Nat} {μ : Mem} (f : Nat → Int) : ∀ l : List Nat, DtL lk c μ (l.map fun i => T.int (f i)) (l.map fun i => W.int (f i))
  | [] => Zev
  | i :: l => Zdj (Zfn _) (ints_map f l)
theorem Znd (he : RE lk e de) : RI lk (n_rng e) (Zgu de) := fun h sd => (he h sd).bind fun tx s1 x μ1 c1 n1 h1 dx => by
  cases tx with
  | int j =>
    obtain rfl := Zfb dx
    by_cases q : cRng j = true
    · simp only [q, if_true]
      refine Zdr h1 ⟨rfl, ?_, fun _ _ _ => rfl⟩
      have e1 : ranI 0 j.toNat = (List.range j.toNat).map fun i => W.int ((i : Nat) : Int) := by
        unfold ranI
        exact List.map_congr_left fun i _ => by simp
      show DtL lk c1 μ1 (ranT j.toNat) (ranI 0 j.toNat)
      rw [e1]
      exact ints_map (fun i => (i : Int)) _
    · simp only [q, if_false]
      exact True.intro
  | _ => exact True.intro
theorem strs_map {c : List Nat} {μ : Mem} : ∀ l : List Nat, DtL lk c μ (l.map fun i => T.str ⟨#[i]⟩) (l.map fun i => W.str ⟨#[i]⟩)
  | [] => Zev
  | i :: l => Zdj (Zhx _) (strs_map l)
theorem ri_str (he : RE lk e de) : RI lk (n_str e) (xn_str de) := fun h sd => (he h sd).bind fun tx s1 x μ1 c1 n1 h1 dx => by
  cases tx with
  | str z =>
    obtain rfl := Zgy dx
    exact Zdr h1 ⟨rfl, strs_map _, fun _ _ _ => rfl⟩
  | _ => exact True.intro
end
/-! ### for -/
noncomputable def ditm (pr : Bool) (i : Nat) (t : T) : T := if pr = true then .tup [.int (i : Nat), t] else t
noncomputable def dforI (pr : Bool) (g : DG) (b : DSt) : Nat → List T → DSt
  | _, [] => fun δ s => .ok (.nx δ) s
  | i, t :: r => fun δ s => match g (ditm pr i t) δ with
    | some δ1 => (b δ1 s).bind (dturn (dforI pr g b (i + 1) r))
    | none => .bad
noncomputable def Zf3 (I : DI) (g : DG) (b : DSt) : DSt := fun δ s => (I δ s).bind fun it s1 => dforI it.2 g b 0 it.1 δ s1
theorem itm_dt {c : List Nat} {μ : Mem} {s : Sd} {it : ItD} {pr : Bool} {i : Nat} {t : T} {w : W} (h : CO lk c μ s) (e : it.pr = pr) (d : Dt lk c μ t w) : Nx c μ c (itm it i w μ).2 ∧ CO lk c (itm it i w μ).2 s ∧ Dt lk c (itm it i w μ).2 (ditm pr i t) (itm it i w μ).1 := by
  unfold itm ditm
  rw [e]
  split
  · refine ⟨Zj1 _, h.new _, ?_⟩
    unfold Dt
    exact ⟨_, _, rfl, h.fresh, Zk6, Zdj (Zfn _) (Zdj (d.mono (Zj1 _)) Zev)⟩
  · exact ⟨Nx.refl _ _, h, d⟩
theorem Zir {α β : Type} {Q : List Nat → Mem → β → α → Prop} {c c1 : List Nat} {μ μ1 : Mem} {r : Rs α} {d : Rd β} (x : Nx c μ c1 μ1) (h : RR lk Q c1 μ1 r d) : RR lk Q c μ r d := by
  cases d with
  | bad => exact True.intro
  | ok b s =>
    obtain ⟨a, m, c', e, y, o, q⟩ := h
    exact ⟨a, m, c', e, x.trans y, o, q⟩
  | exc n t s =>
    obtain ⟨a, m, c', e, y, o, q⟩ := h
    exact ⟨a, m, c', e, x.trans y, o, q⟩
theorem rs_forI {g : GM} {dg : DG} {b : SM} {db : DSt} (hg : RG lk g dg) (hb : RSt lk b db) {it : ItD} {pr : Bool} (e : it.pr = pr) : ∀ {ts : List T} {ws : List W} {i : Nat} {c : List Nat} {μ : Mem} {s : Sd} {σ : En} {δ : Ed},
    (∀ (c' : List Nat) (m : Mem), Nx c μ c' m → it.chk m = true) → DtL lk c μ ts ws → CO lk c μ s → SD lk c μ σ δ → RR lk (FlR lk) c μ (forI it g b i ws σ μ) (dforI pr dg db i ts δ s)
  | [], ws, i, c, μ, s, σ, δ, ck, d, h, sd => by
    unfold DtL at d
    subst d
    unfold forI dforI
    rw [if_pos (ck c μ (Nx.refl _ _))]
    exact Zdr h ⟨σ, rfl, sd⟩
  | t :: ts, ws, i, c, μ, s, σ, δ, ck, d, h, sd => by
    unfold DtL at d
    obtain ⟨v, vs, rfl, a, r⟩ := d
    unfold forI dforI
    rw [if_pos (ck c μ (Nx.refl _ _))]
    obtain ⟨x1, h1, d1⟩ := itm_dt (i := i) h e a
    cases q : dg (ditm pr i t) δ with
    | none => simp only [q]; exact True.intro
    | some δ1 =>
      obtain ⟨σ1, e1, sd1⟩ := hg d1 (sd.mono x1) q
      simp only [q, e1]
      refine Zir x1 ((hb h1 sd1).bind fun f s2 x μ2 c2 n2 h2 dx => rr_turn h2 dx fun sd2 => rs_forI hg hb e (fun c' m y => ck c' m (x1.trans (n2.trans y))) (r.mono (x1.trans n2)) h2 sd2)
theorem Zlg {I : IM} {dI : DI} {g : GM} {dg : DG} {b : SM} {db : DSt} (hI : RI lk I dI) (hg : RG lk g dg) (hb : RSt lk b db) : RSt lk (Ziu I g b) (Zf3 dI dg db) := fun h sd => (hI h sd).bind fun d s1 it μ1 c1 n1 h1 r => by
  obtain ⟨e, d1, ck⟩ := r
  exact rs_forI hg hb e ck d1 h1 (sd.mono n1)
/-! ### list comprehensions: the new list is a cell while it grows -/
noncomputable def dwip (δ : Ed) : List Nat → Ed
  | [] => δ
  | v :: vs => (dwip δ vs).set v none
theorem sd_wip {c : List Nat} {μ : Mem} {σ : En} {δ : Ed} (h : SD lk c μ σ δ) : ∀ vs, SD lk c μ (wipW σ vs) (dwip δ vs)
  | [] => h
  | v :: vs => Zhn (w := none) (t := none) True.intro v (sd_wip h vs)
noncomputable def dcompL (pr : Bool) (g : DG) (t : DTm) (e : DE) (δ : Ed) (d : Nat) : Nat → List T → Sd → Rd T
  | _, [] => fun s => .ok (.cell d) s
  | i, x :: r => fun s => match g (ditm pr i x) δ with
    | some δ1 => (t δ1 s).bind fun k s1 => if k = true then ((e δ1 s1).bind fun y s2 => match s2[d]? with
        | some (.lst acc) => if acc.length < LIM then dcompL pr g t e δ d (i + 1) r (s2.set d (.lst (acc ++ [y]))) else .bad
        | _ => .bad) else dcompL pr g t e δ d (i + 1) r s1
    | none => .bad
noncomputable def x_lc (I : DI) (g : DG) (t : DTm) (e : DE) (vs : List Nat) : DE := fun δ s => (I δ s).bind fun it s1 => pop s1.length (fun s2 t => fr s1.length s2 FU t) (dcompL it.2 g t e (dwip δ vs) s1.length 0 it.1 (s1 ++ [.lst []]))
/-- a cell is written -/
theorem CO.set {c : List Nat} {μ : Mem} {s : Sd} (h : CO lk c μ s) {k l : Nat} {o : TO} {u : O} (hk : c[k]? = some l) (d : DtO lk c μ o u) : CO lk c (μ.set l u) (s.set k o) ∧ Nx c μ c (μ.set l u) := by
  have hl : l ∈ c := List.mem_of_getElem? hk
  have x : Nx c μ c (μ.set l u) := ⟨⟨[], by simp, fun l h => by cases h⟩, fun j v hj e => by
    rw [List.getElem?_set_ne (fun z : l = j => hj (by rw [← z]; exact hl))]
    exact e, by simp⟩
  refine ⟨⟨by simp [h.len], h.nd, fun j i o' a b => ?_⟩, x⟩
  by_cases e : j = k
  · subst e
    rw [hk] at a
    cases a
    rw [List.getElem?_set_self (by rw [← h.len]; exact (List.getElem?_eq_some_iff.mp hk).1)] at b
    cases b
    exact ⟨u, List.getElem?_set_self (h.low hl), d.mono x⟩
  · rw [List.getElem?_set_ne (Ne.symm e)] at b
    obtain ⟨v, e1, d1⟩ := h.ob j i o' a b
    have ne : i ≠ l := fun z => by
      subst z
      obtain ⟨g1, g2⟩ := List.getElem?_eq_some_iff.mp a
      obtain ⟨g3, g4⟩ := List.getElem?_eq_some_iff.mp hk
      rcases Nat.lt_trichotomy j k with z | z | z
      · exact List.pairwise_iff_getElem.mp h.nd j k g1 g3 z (g2.trans g4.symm)
      · exact e z
      · exact List.pairwise_iff_getElem.mp h.nd k j g3 g1 z (g4.trans g2.symm)
    exact ⟨v, by rw [List.getElem?_set_ne (Ne.symm ne)]; exact e1, d1.mono x⟩
theorem cell_at {c : List Nat} {μ : Mem} {s : Sd} (h : CO lk c μ s) {k l : Nat} {ts : List T} (hk : c[k]? = some l) (hs : s[k]? = some (.lst ts)) : ∃ ws, μ[l]? = some (.lst ws) ∧ DtL lk c μ ts ws := by
  obtain ⟨u, e, ws, rfl, r⟩ := h.ob k l _ hk hs
  exact ⟨ws, e, r⟩
theorem r_compL {g : GM} {dg : DG} {t : TM} {dt : DTm} {e : EM} {de : DE} (hg : RG lk g dg) (ht : RT lk t dt) (he : RE lk e de) {it : ItD} {pr : Bool} (ep : it.pr = pr) {d dd : Nat} :
    ∀ {ts : List T} {ws : List W} {i : Nat} {c : List Nat} {μ : Mem} {s : Sd} {σ : En} {δ : Ed}, c[dd]? = some d → (∀ (c' : List Nat) (m : Mem), Nx c μ c' m → it.chk m = true) → DtL lk c μ ts ws → CO lk c μ s → SD lk c μ σ δ →
      RR lk (Dt lk) c μ (Zhp it g t e σ d i ws μ) (dcompL pr dg dt de δ dd i ts s)
  | [], ws, i, c, μ, s, σ, δ, hd, ck, r, h, sd => by
    unfold DtL at r
    subst r
    unfold Zhp dcompL
    rw [if_pos (ck c μ (Nx.refl _ _))]
    exact Zdr h (by unfold Dt; exact ⟨d, hd, rfl⟩)
  | x :: ts, ws, i, c, μ, s, σ, δ, hd, ck, r, h, sd => by
    unfold DtL at r
    obtain ⟨v, vs, rfl, a, r⟩ := r
    unfold Zhp dcompL
    rw [if_pos (ck c μ (Nx.refl _ _))]
    obtain ⟨x1, h1, d1⟩ := itm_dt (i := i) h ep a
    cases q : dg (ditm pr i x) δ with
    | none => simp only [q]; exact True.intro
    | some δ1 =>
      obtain ⟨σ1, e1, sd1⟩ := hg d1 (sd.mono x1) q
      simp only [q, e1]
      refine Zir x1 ((ht h1 sd1).bind fun k s2 k' μ2 c2 n2 h2 ek => ?_)
      subst ek
      split
      · refine (he h2 (sd1.mono n2)).bind fun y s3 w μ3 c3 n3 h3 dy => ?_
        have x3 := x1.trans (n2.trans n3)
        have hd3 := x3.cell hd
        cases hs : s3[dd]? with
        | none => simp only [hs]; exact True.intro
        | some o =>
          cases o with
          | lst acc =>
            obtain ⟨us, a3, r3⟩ := cell_at h3 hd3 hs
            simp only [hs, getL, a3, r3.length]
            split
            · obtain ⟨h4, x4⟩ := h3.set hd3 (o := .lst (acc ++ [y])) (u := .lst (us ++ [w])) ⟨_, rfl, Zmq r3 (Zdj dy Zev)⟩
              exact Zir x4 (r_compL hg ht he ep ((x3.trans x4).cell hd) (fun c' m z => ck c' m (x3.trans (x4.trans z))) (r.mono (x3.trans x4)) h4 (sd.mono (x3.trans x4)))
            · exact True.intro
          | _ => simp only [hs]; exact True.intro
      · have x3 := x1.trans n2
        exact r_compL hg ht he ep (x3.cell hd) (fun c' m z => ck c' m (x3.trans z)) (r.mono x3) h2 (sd.mono x3)
theorem r_lc {I : IM} {dI : DI} {g : GM} {dg : DG} {t : TM} {dt : DTm} {e : EM} {de : DE} (vs : List Nat) (hI : RI lk I dI) (hg : RG lk g dg) (ht : RT lk t dt) (he : RE lk e de) : RE lk (e_lc I g t e vs) (x_lc dI dg dt de vs) := fun h sd => (hI h sd).bind fun d s1 it μ1 c1 n1 h1 r => by
  obtain ⟨ep, d1, ck⟩ := r
  refine rr_pop h1 ?_
  obtain ⟨w, m, c2, e2, x2, h2, d2⟩ := Zko h1 (o := .lst []) (u := .lst []) ⟨[], rfl, Zev⟩
  cases e2
  unfold Dt at d2
  obtain ⟨l, hl, el⟩ := d2
  cases el
  exact Zir x2 (r_compL hg ht he ep hl (fun c' m z => ck c' m (x2.trans z)) (d1.mono x2) h2 ((sd_wip (sd.mono n1) vs).mono x2))
noncomputable def Zfw : DTm := fun _ s => .ok true s
theorem Zjz : RT lk Zj6 Zfw := fun h _ => Zdr h rfl
end Vs
namespace Vs
open PySem L2

/-! ### comprehensions of two clauses -/
section
variable {G : Gt} {fn : Nat → Str} {EX : XK} {I I1 : IM} {g g1 : GM} {e : EM} {vs vs1 : List Nat} {τ : L2.St} {H : Hp} {Q : VK}
end
section
variable {X : Cx} {G : Gt} {fn : Nat → Str} {EX : XK} {elt tg iter tg1 iter1 : Expr} {scope : Scope} {own : List (Str × Nat)} {pos : Pos} {I I1 : IM} {g g1 : GM} {fe : EM} {vs1 : List Nat}
end
/-! ### the same over trees -/
section
variable {lk : Option Nat}
end
end Vs
/-! Trees and cells: dict comprehensions, methods, stores, objects. -/
namespace Vs
open PySem L2
variable {lk : Option Nat}
noncomputable def putT {κ : Type} [DecidableEq κ] (kvs : List (κ × T)) (k : κ) (v : T) : List (κ × T) :=
  if kvs.any (fun kv => decide (kv.1 = k)) then kvs.map (fun kv => if kv.1 = k then (kv.1, v) else kv) else kvs ++ [(k, v)]

noncomputable def Zi5 : DE := fun _ s => .ok (.dic []) s
noncomputable def x_dcel : DE := fun _ s => .ok (.cell s.length) (s ++ [.dic []])
theorem r_dnew : RE lk e_dnew Zi5 := fun h _ => rr_dic h (by unfold DtK; rfl)
/-! ### methods of lists and texts -/
noncomputable abbrev DPM := T → List T → Sd → Option (T × Sd)
noncomputable def RM (lk : Option Nat) (op : PM) (d : DPM) : Prop := ∀ {c : List Nat} {μ : Mem} {s : Sd} {x : W} {ws : List W} {tx : T} {ts : List T}, CO lk c μ s → Dt lk c μ tx x → DtL lk c μ ts ws → RR lk (Dt lk) c μ (lift (op x ws μ)) (Zbw (d tx ts s))
noncomputable def isLT (s : Sd) (t : T) : Bool := (lstT s t).isSome
noncomputable def isST (_ : Sd) : T → Bool
  | .str _ => true
  | _ => false
noncomputable def RC (lk : Option Nat) (chk : Mem → W → Bool) (dc : Sd → T → Bool) : Prop := ∀ {c : List Nat} {μ : Mem} {s : Sd} {x : W} {tx : T}, CO lk c μ s → Dt lk c μ tx x → dc s tx = true → chk μ x = true
theorem rc_list : RC lk isL isLT := by
  intro c μ s x tx h d e
  obtain ⟨ts, e1⟩ := Option.isSome_iff_exists.mp e
  obtain ⟨l, ws, rfl, a, r⟩ := Zki h d e1
  simp [isL, getL, a]
theorem rc_str : RC lk isS isST := by
  intro c μ s x tx h d e
  cases tx with
  | str z => obtain rfl := Zgy d; rfl
  | _ => cases e
noncomputable def x_bm (dc : Sd → T → Bool) (op : DPM) (o : DE) (a : DA) : DE := fun δ s => (o δ s).bind fun x s1 => if dc s1 x = true then (a δ s1).bind fun ws s2 => Zbw (op x ws s2) else .bad
noncomputable def x_bm0 (dc : Sd → T → Bool) (op : DPM) (o : DE) : DE := fun δ s => (o δ s).bind fun x s1 => if dc s1 x = true then Zbw (op x [] s1) else .bad
theorem r_bm {chk : Mem → W → Bool} {dc : Sd → T → Bool} {op : PM} {d : DPM} {o : EM} {od : DE} {a : AM} {da : DA} (hc : RC lk chk dc) (hm : RM lk op d) (ho : RE lk o od) (ha : RA lk a da) : RE lk (e_bm chk op o a) (x_bm dc d od da) := fun h sd => (ho h sd).bind fun tx s1 x μ1 c1 n1 h1 dx => by
  by_cases q : dc s1 tx = true
  · simp only [q, hc h1 dx q, if_true]
    exact (ha h1 (sd.mono n1)).bind fun ts s2 ws μ2 c2 n2 h2 d2 => hm h2 (dx.mono n2) d2
  · simp only [q, if_false]
    exact True.intro
theorem r_bm0 {chk : Mem → W → Bool} {dc : Sd → T → Bool} {op : PM} {d : DPM} {o : EM} {od : DE} (hc : RC lk chk dc) (hm : RM lk op d) (ho : RE lk o od) : RE lk (e_bm0 chk op o) (x_bm0 dc d od) := fun h sd => (ho h sd).bind fun tx s1 x μ1 c1 n1 h1 dx => by
  by_cases q : dc s1 tx = true
  · simp only [q, hc h1 dx q, if_true]
    exact hm h1 dx Zev
  · simp only [q, if_false]
    exact True.intro
/-- a cell's list is replaced -/
noncomputable def cellL (s : Sd) : T → Option (Nat × List T)
  | .cell k => match s[k]? with
    | some (.lst ts) => some (k, ts)
    | _ => none
  | _ => none
theorem cellL_at {c : List Nat} {μ : Mem} {s : Sd} {t : T} {w : W} {k : Nat} {ts : List T} (h : CO lk c μ s) (d : Dt lk c μ t w) (e : cellL s t = some (k, ts)) : ∃ l ws, w = .loc l ∧ c[k]? = some l ∧ μ[l]? = some (.lst ws) ∧ DtL lk c μ ts ws := by
  cases t with
  | cell j =>
    unfold cellL at e
    dsimp only at e
    split at e
    · rename_i us hs
      cases e
      unfold Dt at d
      obtain ⟨l, hl, rfl⟩ := d
      obtain ⟨ws, a, r⟩ := cell_at h hl hs
      exact ⟨l, ws, rfl, hl, a, r⟩
    · cases e
  | _ => cases e
theorem rr_set {c : List Nat} {μ : Mem} {s : Sd} {k l : Nat} {ts : List T} {ws : List W} {t : T} {w : W} (h : CO lk c μ s) (hk : c[k]? = some l) (r : DtL lk c μ ts ws) (d : Dt lk c μ t w) : RR lk (Dt lk) c μ (.ok w (μ.set l (.lst ws))) (.ok t (s.set k (.lst ts))) := by
  obtain ⟨h1, x⟩ := h.set hk (o := .lst ts) (u := .lst ws) ⟨ws, rfl, r⟩
  exact ⟨w, _, c, rfl, x, h1, d.mono x⟩
noncomputable def Zgg : DPM := fun x ws s => match cellL s x, ws with
  | some (k, ts), [y] => if ts.length < LIM then some (.non, s.set k (.lst (ts ++ [y]))) else none
  | _, _ => none
theorem Zjp : RM lk Zfc Zgg := by
  intro c μ s x ws tx ts h dx dws
  refine Zks fun t s' e => ?_
  unfold Zgg at e
  split at e
  · rename_i k us y e1
    split at e
    · rename_i hl
      cases e
      obtain ⟨l, vs, rfl, hk, a, r⟩ := cellL_at h dx e1
      obtain ⟨w, rfl, dw⟩ := Zj9 dws
      exact Zmp (by simp only [Zfc, getL, a]; rw [if_pos (by rw [r.length]; exact hl)]) (rr_set h hk (Zmq r (Zdj dw Zev)) Zmi)
    · cases e
  · cases e
noncomputable def yStr (f : Str → Bool) : DPM := fun x ws s => match x, ws with
  | .str z, [] => some (.bl (f z), s)
  | _, _ => none
theorem rm_str (f : Str → Bool) : RM lk (mStr fun z => .bl (f z)) (yStr f) := by
  intro c μ s x ws tx ts h dx dws
  refine Zks fun t s' e => ?_
  unfold yStr at e
  split at e
  · cases e
    obtain rfl := Zgy dx
    unfold DtL at dws
    subst dws
    exact Zen h rfl (Zgi _)
  · cases e
/-! ### further forms -/
noncomputable def x_neg (a : DE) : DE := fun δ s => (a δ s).bind fun x s1 => match x with
  | .int i => .ok (.int (-i)) s1
  | _ => .bad
theorem r_neg {a : EM} {da : DE} (ha : RE lk a da) : RE lk (e_neg a) (x_neg da) := fun h sd => (ha h sd).bind fun tx s1 x μ1 c1 n1 h1 dx => by
  cases tx with
  | int i => obtain rfl := Zfb dx; exact Zdr h1 (Zfn _)
  | _ => exact True.intro
noncomputable def x_bits (a : DE) : DE := fun δ s => (a δ s).bind fun x s1 => match x with
  | .int i => .ok (.int (Builtin.Int.intBits i : Nat)) s1
  | _ => .bad
theorem r_bits {a : EM} {da : DE} (ha : RE lk a da) : RE lk (e_bits a) (x_bits da) := fun h sd => (ha h sd).bind fun tx s1 x μ1 c1 n1 h1 dx => by
  cases tx with
  | int i => obtain rfl := Zfb dx; exact Zdr h1 (Zfn _)
  | _ => exact True.intro
noncomputable def x_words (a : DE) : DE := fun δ s => (a δ s).bind fun x s1 => match x with
  | .str z => if z.length < LIM then .ok (.lst ((Txt.words z).map T.str)) s1 else .bad
  | _ => .bad
noncomputable def strsT : List T → Option (List Str)
  | [] => some []
  | .str x :: r => (strsT r).map (x :: ·)
  | _ => none
noncomputable def x_lenset (a : DE) : DE := fun δ s => (a δ s).bind fun x s1 => match (lstT s1 x).bind strsT with
  | some xs => if xs.length < 4000 then .ok (.int (fmS xs).length) s1 else .bad
  | none => .bad
end Vs
/-! Trees and cells: stores, truth, dict comprehensions, objects. -/
namespace Vs
open PySem L2
variable {lk : Option Nat}
theorem dtl_set {c : List Nat} {μ : Mem} {t : T} {w : W} (d : Dt lk c μ t w) : ∀ {ts : List T} {ws : List W} (i : Nat), DtL lk c μ ts ws → DtL lk c μ (ts.set i t) (ws.set i w)
  | [], _, _, h => by
    unfold DtL at h
    subst h
    exact Zev
  | x :: ts, _, 0, h => by
    unfold DtL at h
    obtain ⟨v, vs, rfl, a, b⟩ := h
    exact Zdj d b
  | x :: ts, _, i + 1, h => by
    unfold DtL at h
    obtain ⟨v, vs, rfl, a, b⟩ := h
    exact Zdj a (dtl_set d i b)
/-! ### stores -/
noncomputable abbrev DSet := T → T → T → Sd → Option Sd
noncomputable def Zmj : DSet := fun t x y s => match cellL s x, y with
  | some (k, ts), .int i => (ixN ts.length i).map fun j => s.set k (.lst (ts.set j t))
  | _, _ => none
noncomputable def xs_st (f : DSet) (e o i : DE) : DSt := fun δ s => (e δ s).bind fun t s1 => (o δ s1).bind fun x s2 => (i δ s2).bind fun y s3 => match f t x y s3 with
  | some s' => .ok (.nx δ) s'
  | none => .bad
theorem rs_setI {e o i : EM} {de od di : DE} (he : RE lk e de) (ho : RE lk o od) (hi : RE lk i di) : RSt lk (s_setI e o i) (xs_st Zmj de od di) := fun {c μ σ δ s} h sd => (he h sd).bind fun t s1 w μ1 c1 n1 h1 dt => (ho h1 (sd.mono n1)).bind fun x s2 wx μ2 c2 n2 h2 dx => (hi h2 (sd.mono (n1.trans n2))).bind fun y s3 wy μ3 c3 n3 h3 dy => by
  cases q : Zmj t x y s3 with
  | none => simp only [q]; exact True.intro
  | some s' =>
    have q0 := q
    unfold Zmj at q
    split at q
    · rename_i k ts j e1
      obtain ⟨m, e2, e3⟩ := Option.map_eq_some_iff.mp q
      obtain ⟨l, ws, rfl, hk, a, r⟩ := cellL_at h3 (dx.mono n3) e1
      obtain rfl := Zfb dy
      have e4 : setIw w (.loc l) (.int j) μ3 = some (μ3.set l (.lst (ws.set m w))) := by
        simp only [setIw, getL, a, Option.bind_some, r.length, e2, Option.map_some]
      simp only [q0, e4]
      obtain ⟨h4, x4⟩ := h3.set hk (o := .lst (ts.set m t)) (u := .lst (ws.set m w)) ⟨_, rfl, dtl_set (dt.mono (n2.trans n3)) m r⟩
      rw [← e3]
      exact ⟨_, _, c3, rfl, x4, h4, _, rfl, sd.mono ((n1.trans (n2.trans n3)).trans x4)⟩
    · cases q
/-! ### truth -/
noncomputable def truT (s : Sd) (t : T) : Option Bool := match ob s t with
  | some (.lst ts) => some (!ts.isEmpty)
  | some (.tup ts) => some (!ts.isEmpty)
  | some _ => none
  | none => match t with
    | .non => some false
    | .bl b => some b
    | .int i => some (i != 0)
    | .str x => if x.length ≤ LIM then some ((x.length : Int) != 0) else none
    | _ => none
theorem empty_dt {c : List Nat} {μ : Mem} {ts : List T} {ws : List W} (r : DtL lk c μ ts ws) : ws.isEmpty = ts.isEmpty := by
  cases ts with
  | nil => unfold DtL at r; rw [r]; rfl
  | cons a b => unfold DtL at r; obtain ⟨v, vs, rfl, _⟩ := r; rfl
noncomputable def Zf2 (a : DE) : DTm := fun δ s => (a δ s).bind fun x s1 => match truT s1 x with
  | some b => .ok b s1
  | none => .bad
theorem truT_at {c : List Nat} {μ : Mem} {s : Sd} {t : T} {w : W} {b : Bool} (h : CO lk c μ s) (d : Dt lk c μ t w) (e : truT s t = some b) : tru μ w = some b := by
  unfold truT at e
  split at e
  · rename_i ts e1
    obtain ⟨l, u, rfl, a, ws, rfl, r⟩ := Ze3 h d e1
    simp only [tru, a, empty_dt r]
    exact e
  · rename_i ts e1
    obtain ⟨l, u, rfl, a, ws, rfl, r⟩ := Ze3 h d e1
    simp only [tru, a, empty_dt r]
    exact e
  · cases e
  · cases t with
    | non => rw [Zi0 d]; exact e
    | bl b => rw [Zjf d]; exact e
    | int b => rw [Zfb d]; exact e
    | str b => rw [Zgy d]; exact e
    | _ => cases e
theorem Zh2 {a : EM} {da : DE} (ha : RE lk a da) : RT lk (Zhz a) (Zf2 da) := fun h sd => (ha h sd).bind fun tx s1 x μ1 c1 n1 h1 dx => by
  cases q : truT s1 tx with
  | none => simp only [q]; exact True.intro
  | some b =>
    simp only [q, truT_at h1 dx q]
    exact Zdr h1 rfl
/-- a, b = x, y -/
noncomputable def Zmz (i j : Nat) (a : DA) : DSt := fun δ s => (a δ s).bind fun ws s1 => match ws with
  | [x, y] => .ok (.nx ((δ.set i (some x)).set j (some y))) s1
  | _ => .bad
theorem rs_par {i j : Nat} {a : AM} {da : DA} (ha : RA lk a da) : RSt lk (s_par i j a) (Zmz i j da) := fun {c μ σ δ s} h sd => (ha h sd).bind fun ts s1 ws μ1 c1 n1 h1 dx => by
  cases ts with
  | nil => exact True.intro
  | cons x r => cases r with
    | nil => exact True.intro
    | cons y r => cases r with
      | cons z r => exact True.intro
      | nil =>
        obtain ⟨w, v, rfl, d1, d2⟩ := two_dt dx
        exact Zdr h1 ⟨_, rfl, Zhn (Zg8 d2) j (Zhn (Zg8 d1) i (sd.mono n1))⟩
/-! ### objects -/
noncomputable def insT (s : Sd) (t : T) : Option (Nat × List (Str × T)) := match ob s t with
  | some (.ins n fs) => some (n, fs)
  | _ => none
theorem insT_at {c : List Nat} {μ : Mem} {s : Sd} {t : T} {w : W} {n : Nat} {fs : List (Str × T)} (h : CO lk c μ s) (d : Dt lk c μ t w) (e : insT s t = some (n, fs)) : ∃ ws, getI μ w = some (n, ws) ∧ DtF lk c μ fs ws := by
  unfold insT at e
  split at e
  · rename_i n' fs' e1
    cases e
    obtain ⟨l, u, rfl, a, ws, rfl, r⟩ := Ze3 h d e1
    exact ⟨ws, by simp [getI, a], r⟩
  · cases e
theorem dtf_lookup {c : List Nat} {μ : Mem} {f : Str} : ∀ {ts : List (Str × T)} {ws : List (Str × W)}, DtF lk c μ ts ws → (∀ t, ts.lookup f = some t → ∃ w, ws.lookup f = some w ∧ Dt lk c μ t w) ∧ (ts.lookup f = none → ws.lookup f = none)
  | [], _, h => by
    unfold DtF at h
    subst h
    exact ⟨fun t e => (nomatch e), fun _ => rfl⟩
  | (k, t') :: ts, _, h => by
    unfold DtF at h
    obtain ⟨v, vs, rfl, a, b⟩ := h
    have ih := dtf_lookup (f := f) b
    rw [List.lookup_cons, List.lookup_cons]
    cases e : f == k with
    | true => exact ⟨fun t h => ⟨v, rfl, by cases h; exact a⟩, fun h => nomatch h⟩
    | false => exact ih
noncomputable def Zln (n : Nat) (f : Str) (a : DE) : DE := fun δ s => (a δ s).bind fun x s1 => match insT s1 x with
  | some (n', fs) => if n' = n then (match fs.lookup f with
    | some t => .ok t s1
    | none => .bad) else .bad
  | none => .bad
theorem r_fld {n : Nat} {f : Str} {a : EM} {da : DE} (ha : RE lk a da) : RE lk (Zmx n f a) (Zln n f da) := fun h sd => (ha h sd).bind fun tx s1 x μ1 c1 n1 h1 dx => by
  cases q : insT s1 tx with
  | none => simp only [q]; exact True.intro
  | some p =>
    obtain ⟨n', fs⟩ := p
    obtain ⟨ws, e1, r⟩ := insT_at h1 dx q
    simp only [q, e1]
    split
    · cases e : fs.lookup f with
      | none => simp only [e]; exact True.intro
      | some t =>
        obtain ⟨w, e2, d⟩ := (dtf_lookup r).1 t e
        simp only [e, e2]
        exact Zdr h1 d
    · exact True.intro
noncomputable def putT' (f : Str) (v : T) : List (Str × T) → List (Str × T)
  | [] => [(f, v)]
  | (g, x) :: r => if g = f then (g, v) :: r else (g, x) :: putT' f v r
theorem dtf_put {c : List Nat} {μ : Mem} {f : Str} {t : T} {w : W} (d : Dt lk c μ t w) : ∀ {ts : List (Str × T)} {ws : List (Str × W)}, DtF lk c μ ts ws → DtF lk c μ (putT' f t ts) (putW' f w ws)
  | [], _, h => by
    unfold DtF at h
    subst h
    show DtF lk c μ [(f, t)] [(f, w)]
    unfold DtF
    exact ⟨w, [], rfl, d, by unfold DtF; rfl⟩
  | (g, x) :: ts, _, h => by
    unfold DtF at h
    obtain ⟨v, vs, rfl, a, b⟩ := h
    show DtF lk c μ (if g = f then (g, t) :: ts else (g, x) :: putT' f t ts) (if g = f then (g, w) :: vs else (g, v) :: putW' f w vs)
    split
    · unfold DtF
      exact ⟨w, vs, rfl, d, b⟩
    · unfold DtF
      exact ⟨v, _, rfl, a, dtf_put d b⟩
noncomputable def ySetF (n : Nat) (f : Str) (t x : T) (s : Sd) : Option Sd := match x with
  | .cell k => match s[k]? with
    | some (.ins n' fs) => if n' = n ∧ fs.length < 100 then some (s.set k (.ins n' (putT' f t fs))) else none
    | _ => none
  | _ => none
noncomputable def xs_fld (n : Nat) (f : Str) (e o : DE) : DSt := fun δ s => (e δ s).bind fun t s1 => (o δ s1).bind fun x s2 => match ySetF n f t x s2 with
  | some s' => .ok (.nx δ) s'
  | none => .bad
theorem DtF.length {c : List Nat} {μ : Mem} : ∀ {ts : List (Str × T)} {ws : List (Str × W)}, DtF lk c μ ts ws → ws.length = ts.length
  | [], _, h => by unfold DtF at h; rw [h]; rfl
  | (k, t) :: ts, _, h => by
    unfold DtF at h
    obtain ⟨v, vs, rfl, _, b⟩ := h
    rw [List.length_cons, List.length_cons, b.length]
theorem rs_fld {n : Nat} {f : Str} {e o : EM} {de od : DE} (he : RE lk e de) (ho : RE lk o od) : RSt lk (s_fld n f e o) (xs_fld n f de od) := fun {c μ σ δ s} h sd => (he h sd).bind fun t s1 w μ1 c1 n1 h1 dt => (ho h1 (sd.mono n1)).bind fun x s2 wx μ2 c2 n2 h2 dx => by
  cases q : ySetF n f t x s2 with
  | none => simp only [q]; exact True.intro
  | some s' =>
    have q0 := q
    unfold ySetF at q
    split at q
    · rename_i k
      split at q
      · rename_i n' fs hs
        split at q
        · rename_i hl
          cases q
          unfold Dt at dx
          obtain ⟨l, hk, rfl⟩ := dx
          obtain ⟨u, a, ws, rfl, r⟩ := h2.ob k l _ hk hs
          have e4 : setFw n f w (.loc l) μ2 = some (μ2.set l (.ins n (putW' f w ws))) := by
            simp only [setFw, getI, a, Option.bind_some, hl.1]
            rw [if_pos ⟨trivial, by rw [r.length]; exact hl.2⟩]
          simp only [q0, e4]
          obtain ⟨h4, x4⟩ := h2.set hk (o := .ins n' (putT' f t fs)) (u := .ins n (putW' f w ws)) (by rw [hl.1]; exact ⟨_, rfl, dtf_put (dt.mono n2) r⟩)
          exact ⟨_, _, c2, rfl, x4, h4, _, rfl, sd.mono ((n1.trans n2).trans x4)⟩
        · cases q
      · cases q
    · cases q
/-- C(..): the object is a cell while it is made -/
noncomputable def Zgs (n : Nat) (f : DFn) (a : DA) : DE := fun δ s => (a δ s).bind fun ts s1 => pop s1.length (fun s2 t => fr s1.length s2 FU t) ((f (.cell s1.length :: ts) (s1 ++ [.ins n []])).bind fun r s2 => match r with
  | .non => .ok (.cell s1.length) s2
  | _ => .bad)
theorem r_make {n : Nat} {f : Fn} {d : DFn} {a : AM} {da : DA} (hf : RF f d) (ha : RA none a da) : RE none (e_make n f a) (Zgs n d da) := fun h sd => (ha h sd).bind fun ts s1 ws μ1 c1 n1 h1 d1 => by
  refine rr_pop h1 ?_
  obtain ⟨w, m, c2, e2, x2, h2, d2⟩ := Zko h1 (o := .ins n []) (u := .ins n []) ⟨[], rfl, by unfold DtF; rfl⟩
  cases e2
  refine Zir x2 ((hf rfl h2 (Zdj d2 (d1.mono x2))).bind fun r s3 v μ3 c3 n3 h3 d3 => ?_)
  cases r with
  | non =>
    obtain rfl := Zi0 d3
    exact Zdr h3 (d2.mono n3)
  | _ => exact True.intro
end Vs
/-! Trees and cells: own operators, dict comprehensions, walks over keys. -/
namespace Vs
open PySem L2
variable {lk : Option Nat}
noncomputable def isCT (n : Nat) (s : Sd) (t : T) : Bool := match insT s t with
  | some (n', _) => decide (n' = n)
  | none => false
theorem Zho {c : List Nat} {μ : Mem} {s : Sd} {t : T} {w : W} {n : Nat} (h : CO lk c μ s) (d : Dt lk c μ t w) (e : isCT n s t = true) : isC n μ w = true := by
  unfold isCT at e
  split at e
  · rename_i n' fs e1
    obtain ⟨ws, e2, _⟩ := insT_at h d e1
    simp only [isC, e2]
    exact e
  · cases e
noncomputable def x_oadd (n : Nat) (f : DFn) (a b : DE) : DE := fun δ s => (a δ s).bind fun x s1 => (b δ s1).bind fun y s2 => if (isCT n s2 x && (lstT s2 y).isSome) = true then f [x, y] s2 else .bad
noncomputable def Zns (n : Nat) (f : DFn) (a b : DE) : DE := fun δ s => (a δ s).bind fun x s1 => (b δ s1).bind fun y s2 => if (isCT n s2 x && isCT n s2 y) = true then f [x, y] s2 else .bad
noncomputable def x_one (n : Nat) (f : DFn) (a b : DE) : DE := fun δ s => (a δ s).bind fun x s1 => (b δ s1).bind fun y s2 => if (isCT n s2 x && isCT n s2 y) = true then (f [x, y] s2).bind fun z s3 => match z with
    | .bl k => .ok (.bl (!k)) s3
    | _ => .bad
  else .bad
section
variable {n : Nat} {f : Fn} {d : DFn} {a b : EM} {da db : DE}
theorem r_oadd (hf : RF f d) (ha : RE none a da) (hb : RE none b db) : RE none (e_oadd n f a b) (x_oadd n d da db) := fun h sd => (ha h sd).bind fun x s1 w μ1 c1 n1 h1 dx => (hb h1 (sd.mono n1)).bind fun y s2 v μ2 c2 n2 h2 dy => by
  by_cases q : (isCT n s2 x && (lstT s2 y).isSome) = true
  · obtain ⟨q1, q2⟩ := Bool.and_eq_true_iff.mp q
    have e1 := Zho h2 (dx.mono n2) q1
    obtain ⟨ts, e2⟩ := Option.isSome_iff_exists.mp q2
    obtain ⟨l, ws, rfl, p, r⟩ := Zki h2 dy e2
    rw [if_pos q, if_pos (by simp [e1, getR, p])]
    exact hf rfl h2 (Zdj (dx.mono n2) (Zdj dy Zev))
  · rw [if_neg q]
    exact True.intro
theorem r_oeq (hf : RF f d) (ha : RE none a da) (hb : RE none b db) : RE none (e_oeq n f a b) (Zns n d da db) := fun h sd => (ha h sd).bind fun x s1 w μ1 c1 n1 h1 dx => (hb h1 (sd.mono n1)).bind fun y s2 v μ2 c2 n2 h2 dy => by
  by_cases q : (isCT n s2 x && isCT n s2 y) = true
  · obtain ⟨q1, q2⟩ := Bool.and_eq_true_iff.mp q
    rw [if_pos q, if_pos (by rw [Zho h2 (dx.mono n2) q1, Zho h2 dy q2]; rfl)]
    exact hf rfl h2 (Zdj (dx.mono n2) (Zdj dy Zev))
  · rw [if_neg q]
    exact True.intro
theorem r_one (hf : RF f d) (ha : RE none a da) (hb : RE none b db) : RE none (e_one n f a b) (x_one n d da db) := fun h sd => (ha h sd).bind fun x s1 w μ1 c1 n1 h1 dx => (hb h1 (sd.mono n1)).bind fun y s2 v μ2 c2 n2 h2 dy => by
  by_cases q : (isCT n s2 x && isCT n s2 y) = true
  · obtain ⟨q1, q2⟩ := Bool.and_eq_true_iff.mp q
    rw [if_pos q, if_pos (by rw [Zho h2 (dx.mono n2) q1, Zho h2 dy q2]; rfl)]
    refine (hf rfl h2 (Zdj (dx.mono n2) (Zdj dy Zev))).bind fun z s3 u μ3 c3 n3 h3 dz => ?_
    cases z with
    | bl k => obtain rfl := Zjf dz; exact Zdr h3 (Zgi _)
    | _ => exact True.intro
  · rw [if_neg q]
    exact True.intro
noncomputable def x_isI (n : Nat) (a : DE) : DE := fun δ s => (a δ s).bind fun x s1 => match tyT s1 x with
  | some _ => .ok (.bl false) s1
  | none => if isCT n s1 x = true then .ok (.bl true) s1 else .bad
theorem r_isI (ha : RE lk a da) : RE lk (e_isI n a) (x_isI n da) := fun h sd => (ha h sd).bind fun x s1 w μ1 c1 n1 h1 dx => by
  cases q : tyT s1 x with
  | some k => simp only [q, tyT_at h1 dx q]; exact Zdr h1 (Zgi _)
  | none =>
    simp only [q]
    by_cases hc : isCT n s1 x = true
    · have e1 := Zho h1 dx hc
      have e2 : tyW μ1 w = none := by
        unfold isC at e1
        split at e1
        · rename_i m fs e3
          unfold getI at e3
          split at e3
          · rename_i l
            unfold tyW
            dsimp only
            split at e3
            · rename_i a1; rw [a1]
            · cases e3
          · cases e3
        · cases e1
      rw [if_pos hc]
      simp only [e2]
      rw [if_pos e1]
      exact Zdr h1 (Zgi _)
    · rw [if_neg hc]
      exact True.intro
end
/-! ### dict comprehensions -/
end Vs
/-! Trees and cells: a dict is walked over its keys. -/
namespace Vs
open PySem L2
/-- the dict at one place is locked or unlocked -/
structure Chg (lk lk' : Option Nat) (c : List Nat) (μ m : Mem) : Prop where
  ls : ∀ (j : Nat) (ws : List W), j ∉ c → μ[j]? = some (.lst ws) → m[j]? = some (.lst ws)
  tu : ∀ (j : Nat) (ws : List W), j ∉ c → μ[j]? = some (.tup ws) → m[j]? = some (.tup ws)
  is : ∀ (j n : Nat) (ws : List (Str × W)), j ∉ c → μ[j]? = some (.ins n ws) → m[j]? = some (.ins n ws)
  xs : ∀ (j n d : Nat), j ∉ c → μ[j]? = some (.exn n d) → m[j]? = some (.exn n d)
  xd : ∀ (j : Nat) (f : Str) (w : W), j ∉ c → μ[j]? = some (.xdc f w) → m[j]? = some (.xdc f w)
  di : ∀ (j : Nat) (ws : List (Key × W)), j ∉ c → (μ[j]? = some (.dic ws) ∨ (lk = some j ∧ μ[j]? = some (.fdic ws))) → m[j]? = some (.dic ws) ∨ (lk' = some j ∧ m[j]? = some (.fdic ws))
section
variable {lk lk' : Option Nat} {c : List Nat} {μ m : Mem}
mutual
theorem Dt.chg (x : Chg lk lk' c μ m) : ∀ {t : T} {w : W}, Dt lk c μ t w → Dt lk' c m t w
  | .non, _, h => by unfold Dt at h ⊢; exact h
  | .bl _, _, h => by unfold Dt at h ⊢; exact h
  | .int _, _, h => by unfold Dt at h ⊢; exact h
  | .str _, _, h => by unfold Dt at h ⊢; exact h
  | .cell k, _, h => by unfold Dt at h ⊢; exact h
  | .lst ts, _, h => by
    unfold Dt at h ⊢
    obtain ⟨l, ws, e, n, a, r⟩ := h
    exact ⟨l, ws, e, n, x.ls l ws n a, DtL.chg x r⟩
  | .tup ts, _, h => by
    unfold Dt at h ⊢
    obtain ⟨l, ws, e, n, a, r⟩ := h
    exact ⟨l, ws, e, n, x.tu l ws n a, DtL.chg x r⟩
  | .dic ts, _, h => by
    unfold Dt at h ⊢
    obtain ⟨l, ws, e, n, a, r⟩ := h
    exact ⟨l, ws, e, n, x.di l ws n a, DtK.chg x r⟩
  | .ins i ts, _, h => by
    unfold Dt at h ⊢
    obtain ⟨l, ws, e, n, a, r⟩ := h
    exact ⟨l, ws, e, n, x.is l i ws n a, DtF.chg x r⟩
  | .exn i t, _, h => by
    unfold Dt at h ⊢
    obtain ⟨l, dl, f, v, e, n, n2, a, a2, r⟩ := h
    exact ⟨l, dl, f, v, e, n, n2, x.xs l i dl n a, x.xd dl _ v n2 a2, Dt.chg x r⟩
theorem DtL.chg (x : Chg lk lk' c μ m) : ∀ {t : List T} {w : List W}, DtL lk c μ t w → DtL lk' c m t w
  | [], _, h => by unfold DtL at h ⊢; exact h
  | t :: ts, _, h => by
    unfold DtL at h ⊢
    obtain ⟨v, vs, e, a, b⟩ := h
    exact ⟨v, vs, e, Dt.chg x a, DtL.chg x b⟩
theorem DtK.chg (x : Chg lk lk' c μ m) : ∀ {t : List (Key × T)} {w : List (Key × W)}, DtK lk c μ t w → DtK lk' c m t w
  | [], _, h => by unfold DtK at h ⊢; exact h
  | (k, t) :: ts, _, h => by
    unfold DtK at h ⊢
    obtain ⟨v, vs, e, a, b⟩ := h
    exact ⟨v, vs, e, Dt.chg x a, DtK.chg x b⟩
theorem DtF.chg (x : Chg lk lk' c μ m) : ∀ {t : List (Str × T)} {w : List (Str × W)}, DtF lk c μ t w → DtF lk' c m t w
  | [], _, h => by unfold DtF at h ⊢; exact h
  | (k, t) :: ts, _, h => by
    unfold DtF at h ⊢
    obtain ⟨v, vs, e, a, b⟩ := h
    exact ⟨v, vs, e, Dt.chg x a, DtF.chg x b⟩
end
theorem DtO.chg (x : Chg lk lk' c μ m) : ∀ {o : TO} {u : O}, DtO lk c μ o u → DtO lk' c m o u
  | .lst _, _, ⟨ws, e, r⟩ => ⟨ws, e, r.chg x⟩
  | .dic _, _, ⟨ws, e, r⟩ => ⟨ws, e, r.chg x⟩
  | .ins _ _, _, ⟨ws, e, r⟩ => ⟨ws, e, r.chg x⟩
  | .scr _, _, e => e
theorem CO.chg {s : Sd} (h : CO lk c μ s) (x : Chg lk lk' c μ m) (k : ∀ l ∈ c, m[l]? = μ[l]?) : CO lk' c m s := ⟨h.len, h.nd, fun i l o a b => by
  obtain ⟨u, e, d⟩ := h.ob i l o a b
  exact ⟨u, by rw [k l (List.mem_of_getElem? a)]; exact e, d.chg x⟩⟩
theorem SD.chg {σ : En} {δ : Ed} (h : SD lk c μ σ δ) (x : Chg lk lk' c μ m) : SD lk' c m σ δ := Paired.mapP h fun w t r => by
  cases t with
  | none => exact True.intro
  | some t =>
    obtain ⟨v, e, d⟩ := r
    exact ⟨v, e, d.chg x⟩
end
theorem FlR.chg {lk lk' : Option Nat} {c : List Nat} {μ m : Mem} {b : DFl} {a : Fl} (x : Chg lk lk' c μ m) (h : FlR lk c μ b a) : FlR lk' c m b a := by
  cases b with
  | rt t => obtain ⟨w, rfl, d⟩ := h; exact ⟨w, rfl, d.chg x⟩
  | nx δ => obtain ⟨w, rfl, d⟩ := h; exact ⟨w, rfl, d.chg x⟩
  | bk δ => obtain ⟨w, rfl, d⟩ := h; exact ⟨w, rfl, d.chg x⟩
  | ct δ => obtain ⟨w, rfl, d⟩ := h; exact ⟨w, rfl, d.chg x⟩
end Vs
/-! Trees and cells: {k: v for name in d}; max(xs, default=d). -/
namespace Vs
open PySem L2
end Vs
/-! Trees and cells: marks for what will be changed; a def that hands out its own cell. -/
namespace Vs
open PySem L2
variable {lk : Option Nat}
noncomputable abbrev e_lstC (a : AM) : EM := Ze7 a
noncomputable abbrev Zi3 (a : DA) : DE := x_cel a
noncomputable abbrev x_dnewC : DE := x_dcel
theorem r_lstC {r : AM} {dr : DA} (hr : RA lk r dr) : RE lk (e_lstC r) (Zi3 dr) := r_cel hr
noncomputable def keep1 (n : Nat) : Rd T → Rd T
  | .ok t s => if n < s.length then pop (n + 1) (fun s t => fr (n + 1) s FU t) (.ok t s) else .bad
  | _ => .bad
theorem rr_pop1 {c : List Nat} {μ : Mem} {s0 : Sd} {r : Rs W} {d : Rd T} (h0 : CO lk c μ s0) (h : RR lk (Dt lk) c μ r d) : RR lk (Dt lk) c μ r (keep1 s0.length d) := by
  cases d with
  | bad => exact True.intro
  | exc n t s => exact True.intro
  | ok t s =>
    unfold keep1
    dsimp only
    split
    · rename_i hl
      obtain ⟨w, m, c', rfl, x, o, q⟩ := h
      unfold pop
      dsimp only
      split
      · rename_i t' s' e1 e2
        obtain ⟨e, rfl, he⟩ := x.gr
        have ol := o.len
        have h0l := h0.len
        cases e with
        | nil => rw [List.append_nil] at ol; omega
        | cons a r =>
          have sp : c ++ a :: r = (c ++ [a]) ++ r := by simp
          rw [sp] at o q
          have ln : (c ++ [a]).length = s0.length + 1 := by simp [h0l]
          rw [← ln] at e1 e2
          exact ⟨w, m, c ++ [a], rfl, ⟨⟨[a], rfl, fun l hl => he l (by rw [List.mem_singleton.mp hl]; exact List.mem_cons_self)⟩, x.kp, x.len⟩, o.pop e2, (fr_ok o FU).one q e1⟩
      · exact True.intro
    · exact True.intro
noncomputable def dfnOf1 (k : Nat) (b : DSt) : DFn := fun ts s => keep1 s.length ((b (ts.map some ++ List.replicate (k - ts.length) none) s).bind fun f s1 => match f with
  | .rt t => .ok t s1
  | .nx _ => .ok .non s1
  | _ => .bad)
theorem rf_def1 {k : Nat} {b : SM} {db : DSt} (hb : RSt none b db) : RF (fnOf k b) (dfnOf1 k db) := by
  intro lk e c μ ws ts s h d
  subst e
  unfold dfnOf1 fnOf
  refine rr_pop1 h ((hb h (Zma d)).bind fun f s1 x μ1 c1 n1 h1 dx => ?_)
  cases f with
  | nx δ1 =>
    obtain ⟨σ1, rfl, sd1⟩ := dx
    exact Zdr h1 Zmi
  | rt t =>
    obtain ⟨w, rfl, d⟩ := dx
    exact Zdr h1 d
  | _ => exact True.intro
end Vs
/-! Trees and cells: a def that is called while a dict is walked. -/
namespace Vs
open PySem L2
/-! ### a comprehension over a cell whose items are numbers, texts, truth values: it is looked at anew at each turn -/
noncomputable def ckF (j : Nat) (as : List W) (s : Sd) : Bool := match s[j]? with
  | some (.lst ts) => decide (flats ts = some as)
  | _ => false
noncomputable def Zlb (ck : Sd → Bool) (pr : Bool) (g : DG) (t : DTm) (e : DE) (δ : Ed) (d : Nat) : Nat → List T → Sd → Rd T
  | _, [] => fun s => if ck s = true then .ok (.cell d) s else .bad
  | i, x :: r => fun s => if ck s = true then (match g (ditm pr i x) δ with
    | some δ1 => (t δ1 s).bind fun k s1 => if k = true then ((e δ1 s1).bind fun y s2 => match s2[d]? with
        | some (.lst acc) => if acc.length < LIM then Zlb ck pr g t e δ d (i + 1) r (s2.set d (.lst (acc ++ [y]))) else .bad
        | _ => .bad) else Zlb ck pr g t e δ d (i + 1) r s1
    | none => .bad) else .bad
noncomputable def x_lcF (E : DE) (g : DG) (t : DTm) (e : DE) (vs : List Nat) : DE := fun δ s => (E δ s).bind fun x s1 => match x with
  | .lst ts => pop s1.length (fun s2 t => fr s1.length s2 FU t) (dcompL false g t e (dwip δ vs) s1.length 0 ts (s1 ++ [.lst []]))
  | .cell j => match s1[j]? with
    | some (.lst ts) => match flats ts with
      | some as => pop s1.length (fun s2 t => fr s1.length s2 FU t) (Zlb (ckF j as) false g t e (dwip δ vs) s1.length 0 ts (s1 ++ [.lst []]))
      | none => .bad
    | _ => .bad
  | _ => .bad
section
variable {lk : Option Nat}
end
end Vs
/-! Errors: made and raised, caught and kept, asked for their class; calls by keywords. -/
namespace L2
open PySem PySem.Spec PyProof.Rows Vs
/-! ### an error that is kept -/
section
variable {X : Cx} {pins : List (Addr × Obj)} {σ : St} {H : Hp} {s : Shared}
theorem exnO_ok {P : Program} {w : World} {H : Hp} {h : Heap} {a C d : Addr} {oe : Obj} {vs : Array Value} (e : h.get? a = some oe) (z : Zc (.ref C) (some d) oe) (dd : oe.data = .fields vs) : ObjOk P w H h a (exnO a C d) :=
  ⟨⟨oe, vs, e, z, dd⟩, ⟨oe, e⟩, fun _ _ ⟨o, v, q, r⟩ k => ⟨o, v, k o q, r⟩⟩
/-- what lies in the heap already is told of from now on -/
theorem Inv.tell (I : Inv X pins σ H s) {a : Addr} {oe : Obj} {vs : Array Value} {o : HO} (ha : s.heap.get? a = some oe) (hd : oe.data = .fields vs) (na : H a = none) (nL : a ≠ X.env.locals) (n0 : X.s_0.heap.get? a = none) (np : ∀ p ∈ X.pn ++ pins, p.1 ≠ a)
    (new : ObjOk X.prog X.w (upd H a o) s.heap a o) : Inv X pins σ (upd H a o) s where
  ok := I.ok
  os := I.os
  bare := I.bare
  base := ⟨I.base.keep, I.base.slot, fun b u q n hx => by rw [upd_ne (fun z => by rw [z, n0] at q; cases q)]; exact I.base.free b u q n hx, I.base.there, fun b xs q => by
      have z := I.base.tups b xs q
      rw [upd_ne (ne_of_none z na)]; exact z, fun b u xs q => by
      have z := I.base.frzs b u xs q
      rw [upd_ne (ne_of_none z na)]; exact z, fun b ps q => by
      obtain ⟨more, z⟩ := I.base.tbls b ps q
      exact ⟨more, by rw [upd_ne (ne_of_none z na)]; exact z⟩⟩
  loc := I.loc
  cell := I.cell
  free := by rw [upd_ne (Ne.symm nL)]; exact I.free
  freeC := fun x c e => by
    have ne : c ≠ a := fun z => by
      obtain ⟨v, o', ho, hc⟩ := I.cell x c e
      rw [z, ha] at ho
      cases ho
      rw [hd] at hc
      cases hc
    rw [upd_ne ne]; exact I.freeC x c e
  pin := fun p hp => by
    obtain ⟨h1, h2, h3, h4, h5⟩ := I.pin p hp
    exact ⟨h1, by rw [upd_ne (np p hp)]; exact h2, h3, h4, h5⟩
  hok := I.hok.laidN (fun _ _ q => q) na new
  len := I.len
end
/-- what 'except x as n: m = n' wishes of an error of the body: slot j is n's, slot i is m's -/
noncomputable def wKeep (K : PySem.W.Frag) (c : Value) (i j : Nat) (D : Ends) : WX := fun cls d σ H => ∃ C dd, cls = .ref C ∧ d = some dd ∧ PySem.W.exmOne K cls c = some true ∧
  ∀ a, H a = none → D.nx (((σ.set j (some (.ref a))).set i (some (.ref a))).set j none) (upd H a (exnO a C dd))
section
variable {X : Cx} {x n : Str} {c : Value} {i j : Nat} {body suite : List Stmt} {b₀ : Stmt} {np pos pos' : Pos} {tb : WX → TS}
theorem ps_tryKeep (hex : X.ex = []) (hs : X.stack = X.env :: X.outer) (hf : X.env.frame = some X.env.locals) (hN : X.N.Nodup) (hj : X.N[j]? = some n) (hln : X.env.kindOf n = some .local) (hc : Names X x c)
    (hb : ∀ (W : WX) (pn : List (Addr × Obj)) (xe : Value → Shared → Prop), Takes (X.tr pn xe) W → PassesOwn (model X.prog X.w) X.A X.env xe → PSs (X.tr pn xe) body (tb W))
    (hsu : ∀ (a : Addr) (oe : Obj) (pn : List (Addr × Obj)), PSs (X.suite a ((a, oe) :: pn)) (b₀ :: suite) (fun D σ H => ∃ v, σ[j]? = some (some v) ∧ D.nx (σ.set i (some v)) H)) :
    PS X (.Try body [.ExceptHandler (some (.Name x np)) (some n) (b₀ :: suite) pos'] [] [] pos) (fun D σ H => tb (wKeep X.K c i j D) D σ H) := by
  refine ⟨fun pins s σ H D I h => ?_⟩
  have ok := I.ok
  have frs' : X.A.frames = some (X.env :: X.outer) := ok.frames.trans (congrArg some hs)
  have here : Loc X.env.scope n := .inl hln
  refine wpAny_Try_except (wpAny_mono ((hb (wKeep X.K c i j D) (X.pn ++ pins) (fun e t => wpAny (model X.prog X.w) X.A (noteFrame e X.env) (fun _ t2 => wpAny (model X.prog X.w) X.A (setFlight e none) (fun _ t3 =>
    wpAny (model X.prog X.w) X.A (handleBy e X.env [.ExceptHandler (some (.Name x np)) (some n) (b₀ :: suite) pos']) (SP X pins D) X.xe t3) X.xe t2) X.xe t) (fun u s' air => ?_) PassesOwn.looking).run [] s σ H D (I.toTry _) h) (fun f s1 out => ?_) (fun _ _ z => z))
  · obtain ⟨a, B, sI, pins', σ', H', cls, d, rfl, J0, nb, up, sky, na, os, ag, C, dd, rfl, rfl, hm, hq⟩ := air
    have J : Inv X pins σ' H' sI := J0.ofTry ok
    rw [hs] at sky
    show wpAny (model X.prog X.w) X.A (noteFrame (.ref a) X.env) _ _ _
    refine Sky.land Zc.steady frs' hf sky fun h3 fl3 up3 => ?_
    have J3 : Inv X pins σ' H' { s' with heap := h3 } := J.landed nb fl3.1 (up.trans up3) os ag
    obtain ⟨oe3, vs3, he3, hz3, hd3⟩ := fl3.there
    have nfr : a ∉ frs (X.env :: X.outer) := fun hin => by
      obtain ⟨_, o', e', hnf⟩ := fl3.2.2.1.mem hin
      rw [he3] at e'
      cases e'
      exact hnf _ hd3
    have nL : a ≠ X.env.locals := fun z => nfr (List.mem_filterMap.mpr ⟨X.env, List.mem_cons_self, by rw [hf, z]⟩)
    have nF : a ∉ X.fs := fun hin => by
      obtain ⟨e, he, q⟩ := List.mem_filterMap.mp hin
      exact nfr (List.mem_filterMap.mpr ⟨e, List.mem_cons_of_mem _ he, q⟩)
    have nS : a ∉ frs X.stack := by rw [hs]; exact nfr
    have gone : ∀ b o, sI.heap.get? b = some o → b ≠ a := fun b o q z => by
      subst z
      have w := nb b o q nS
      rw [fl3.2.1] at w
      cases w
    have n0 : X.s_0.heap.get? a = none := by
      cases q : X.s_0.heap.get? a with
      | none => rfl
      | some o =>
        obtain ⟨o', q'⟩ := J.base.there a o q (by rw [hex]; exact fun z => nomatch z)
        exact absurd rfl (gone a o' q')
    have npn : ∀ p ∈ X.pn ++ pins, p.1 ≠ a := fun p hp => gone p.1 p.2 (J.pin p hp).1
    have S3 := J3.suite he3 hd3 na nL nF
    refine wpAny_handleBy_cons (codeAny_handlers_test ?_) (by intro q; cases q)
    have LT : PySem.W.Looks (model X.prog X.w) h3 (typeOf (.ref a)) (.ref C) := fun A Q E s k q => wpAny_typeOf_ref (k _ _ he3) (by rw [hz3.1]; exact q)
    have LM := PySem.W.exm_one (M := model X.prog X.w) (J3.kIn) LT hm
    have test : ∀ {Q : Value → Shared → Prop} {E : Value → Shared → Prop}, Q c { s' with heap := h3 } → wpAny (model X.prog X.w) (X.A.mark (some (.ref a))) (eval (.Name x np) X.env) Q E { s' with heap := h3 } := fun {Q E} q => by
      obtain ⟨hg, hdbg, hm | ⟨hm, hv, hnn⟩⟩ := hc
      · exact ld_glob (X := X.suite a ((a, oe3) :: (X.pn ++ pins))) S3 hg hm q hdbg
      · exact ld_blt (X := X.suite a ((a, oe3) :: (X.pn ++ pins))) S3 hg hm hv q hnn hdbg
    refine test (LM.here (codeAny_handlers_suite_as (HandSPX.lands_againZ fl3 fun h4 fl4 up4 => ?_)))
    have J4 : Inv X pins σ' H' { s' with heap := h4 } := J.landed nb fl4.1 ((up.trans up3).trans up4) os ag
    obtain ⟨oe4, vs4, he4, hz4, hd4⟩ := fl4.there
    refine store_ok (X := X.suite a ((a, oe4) :: (X.pn ++ pins))) (v := .ref a) (J4.suite he4 hd4 na nL nF) hN hj here rfl (fun s5 S5 => ?_) (.inr hln)
    have hl5 : j < σ'.length := by rw [J4.len]; exact (List.getElem?_eq_some_iff.mp hj).1
    refine wpAny_mono ((hsu a oe4 (X.pn ++ pins)).run [] s5 _ H' { nx := fun σ6 H6 => σ6 = (σ'.set j (some (.ref a))).set i (some (.ref a)) ∧ H6 = H', rt := fun _ _ => False, bk := fun _ _ => False, ct := fun _ _ => False } S5 ⟨.ref a, by rw [List.getElem?_set_self hl5], rfl, rfl⟩) (fun f s6 hsp => ?_) (fun _ _ z => False.elim z)
    cases f with
    | next =>
      obtain ⟨σ6, H6, S6, rfl, rfl⟩ := hsp
      obtain ⟨g6, _⟩ := S6.pin (a, oe4) (List.mem_append_left _ List.mem_cons_self)
      have J6 := (S6.unsuite ok).tell g6 hd4 na nL n0 npn (exnO_ok (C := C) (d := dd) g6 hz4 hd4)
      exact gone_ok J6 hN hj hln fun s7 J7 => ⟨_, _, J7, hq a na⟩
    | brk =>
      obtain ⟨σ6, H6, S6, q6⟩ := hsp
      exact q6.elim
    | cont =>
      obtain ⟨σ6, H6, S6, q6⟩ := hsp
      exact q6.elim
    | ret u =>
      obtain ⟨v6, σ6, H6, S6, r6, q6⟩ := hsp
      exact q6.elim
  · cases f with
    | next =>
      obtain ⟨σ', H', J', q⟩ := out
      exact wpAny_execs_nil ⟨σ', H', J'.ofTry ok, q⟩
    | brk =>
      obtain ⟨σ', H', J', q⟩ := out
      exact ⟨σ', H', J'.ofTry ok, q⟩
    | cont =>
      obtain ⟨σ', H', J', q⟩ := out
      exact ⟨σ', H', J'.ofTry ok, q⟩
    | ret u =>
      obtain ⟨v, σ', H', J', r, q⟩ := out
      exact ⟨v, σ', H', J'.ofTry ok, r, q⟩
end
end L2
namespace Vs
open PySem PySem.Spec PyProof.Rows L2
/-! ### denotations -/
noncomputable def s_raise (c : Nat) (a : AM) : SM := fun σ μ => (a σ μ).bind fun ws μ1 => match ws with
  | [w] => .exc c w μ1
  | _ => .bad
noncomputable def getX (μ : Mem) : W → Option Nat
  | .loc l => match μ[l]? with
    | some (.exn c dl) => match μ[dl]? with
      | some (.xdc _ _) => some c
      | _ => none
    | _ => none
  | _ => none
/-- isinstance(a, the class c of errors), where errors are of the classes L -/
noncomputable def e_isX (L : List Nat) (c : Nat) (a : EM) : EM := fun σ μ => (a σ μ).bind fun x μ1 => match tyW μ1 x with
  | some _ => .ok (.bl false) μ1
  | none => match getX μ1 x with
    | some k => if k ∈ L then .ok (.bl (decide (k = c))) μ1 else .bad
    | none => .bad
noncomputable def same {α : Type} (l : List α) : List α := l
/-! ### what lets errors out, called where none may come -/
section
variable {P : Program} {w : World} {K : PySem.W.Frag} {mg : Str → Option Value} {base : Heap} {G : Gt} {fn : Nat → Str}
theorem v_defX {x qual : Str} {st : Stmt} {f : Addr} {fd : FuncData} {N ps : List Str} {k n : Nat} {b : SM} (hn : ps.length = n) (F : Fun K x qual st f fd) (S : FnScope N ps (defScope st))
    (h : ∀ (cdv : Value) (A : Around) (outer : List Env) (s : Shared) (H : Hp) (E : XK), Room k (A.deeper (PyProof.Rows.envOfC qual (defScope st) s.heap.objs.size f cdv)) → PSs (cxOf (L2.CX P w) P w K mg base N qual (defScope st) f cdv A outer s H E) (defBody st) (tS G fn E b)) :
    FnOk P w K mg base (L2.CX P w) (k + 1) f fd ps (spF G fn n (fnOf N.length b)) := by
  refine F.okX S (fun vs H Q E z => ?_) (fun cdv A outer s H vs Q E hr z => ?_)
  · obtain ⟨ρ, μ, ws, _, r, hl, _⟩ := z
    rw [← Zeu r, hl, hn]
  · obtain ⟨ρ, μ, ws, R, r, hl, hw⟩ := z
    refine ⟨_, h cdv A outer s H E hr, ρ, _, μ, R, rs_start r, Zbv (wpR_bind.mp hw) (fun f μ1 hk ρ1 H1 g1 R1 => ?_) fun _ _ _ z => z⟩
    cases f with
    | nx σ => exact fun τ S1 => hk ρ1 H1 .non g1 R1 rfl
    | rt w => exact fun v r1 => hk ρ1 H1 v g1 R1 r1
    | bk σ => exact hk.elim
    | ct σ => exact hk.elim
end
/-! ### rules -/
section
variable {X : Cx} {G : Gt} {fn : Nat → Str} {EX : XK} {a b : Expr} {es : List Expr} {fa : EM} {r : AM} {pos : Pos} {kws : List Keyword}
theorem vk_nil : PK X [] (tA G fn EX a_nil) := ⟨fun pos pins s σ H Q I h => pk_nil.run pos pins s σ H Q I (i_nil h)⟩
theorem vk_cons {nm : Option Str} {kpos : Pos} (ha : PE X a (tE G fn EX fa)) (hr : PK X kws (tA G fn EX r)) : PK X (⟨nm, a, kpos⟩ :: kws) (tA G fn EX (Zac fa r)) := ⟨fun pos pins s σ H Q I h => (pk_cons ha hr).run pos pins s σ H Q I (i_cons h)⟩
/-! ### isinstance of an error -/
noncomputable def rIsX (K : PySem.W.Frag) : List V → Hp → VK → Prop := fun xs H Q => ∃ (a D d : Addr) (fs : List (Str × V)) (C : Addr) (b : Bool), xs = [.ref a, .ref C] ∧ L2.ExcC K D ∧ H a = some (exnO a D d) ∧ H d = some (.xd fs) ∧ PySem.W.kitOne K (.ref D) (.ref C) = some b ∧ Q (.bl b) H
theorem call_isX : CallR X (.builtin "isinstance") (rIsX X.K) := by
  intro pins s σ H xs us Q I r h
  obtain ⟨a, D, d, fs, C, b, rfl, EC, ea, ed, e, q⟩ := h
  obtain ⟨u1, u2, rfl, r1, r2⟩ := vals2 r
  cases (show u1 = Value.ref a from r1)
  cases (show u2 = Value.ref C from r2)
  obtain ⟨⟨oe, vs, g, z, dd⟩, _, _⟩ := (show ObjOk X.prog X.w H s.heap a (exnO a D d) from I.hok a _ ea)
  obtain ⟨mA, hns, _⟩ := (show ObjOk X.prog X.w H s.heap d (.xd fs) from I.hok d _ ed)
  obtain ⟨od, ho, _⟩ := lookIn_ns hns
  have J : PySem.W.InstAt s.heap a oe D (some od) := ⟨g, z.1, by unfold PySem.W.notCls; rw [dd] <;> rfl, by rw [z.2]; exact ho⟩
  have hcl : (PySem.W.clsIn X.K D).isSome = true := by
    obtain ⟨cd, hc, _⟩ := PySem.W.any_some EC.hd
    rw [hc]
    rfl
  exact PySem.W.kia_one (PySem.W.kitx_exc hcl EC.hg EC.hk EC.hs EC.ha EC.hn EC.ht EC.hm) I.kIn J e (fun z => nomatch z) fun tk => ⟨.bl b, H, I.tok tk, rfl, q⟩
noncomputable def rIsAny (K : PySem.W.Frag) : List V → Hp → VK → Prop := fun xs H Q => rIsi K xs H Q ∨ rIsX K xs H Q
theorem call_isAny : CallR X (.builtin "isinstance") (rIsAny X.K) := fun pins s σ H xs us Q I r h => by
  rcases h with h | h
  · exact call_isi pins s σ H xs us Q I r h
  · exact call_isX pins s σ H xs us Q I r h
/-- what the written part says of the class c of errors, those of the classes L known -/
structure IsX (G : Gt) (L : List Nat) (c : Nat) : Prop where
  no : ∀ t ∈ (["NoneType", "bool", "int", "str", "list", "tuple", "dict"] : List String), PySem.W.kitOne G.K (.type t) (.ref (G.ct c)) = some false
  ex : ∀ k ∈ L, L2.ExcC G.K (G.ct k) ∧ PySem.W.kitOne G.K (.ref (G.ct k)) (.ref (G.ct c)) = some (decide (k = c))
theorem getX_at {ρ : Rho} {μ : Mem} {H : Hp} {w : W} {v : V} {k : Nat} (R : Rel G ρ μ H) (r : RV ρ w v) (h : getX μ w = some k) : ∃ a d fs, v = .ref a ∧ H a = some (exnO a (G.ct k) d) ∧ H d = some (.xd fs) := by
  cases w with
  | loc l =>
    obtain ⟨a, ea, rfl⟩ := r
    unfold getX at h
    cases e : μ[l]? with
    | none => simp [e] at h
    | some o =>
      cases o with
      | exn c dl =>
        simp only [e] at h
        cases e2 : μ[dl]? with
        | none => simp [e2] at h
        | some o2 =>
          cases o2 with
          | xdc f w =>
            simp only [e2] at h
            cases h
            obtain ⟨d, ed, h1⟩ := R.obj l _ a e ea
            obtain ⟨v2, h2, _⟩ := R.obj dl _ d e2 ed
            exact ⟨a, d, _, rfl, h1, h2⟩
          | _ => simp [e2] at h
      | _ => simp [e] at h
  | _ => simp [getX] at h
theorem v_isX {L : List Nat} {c : Nat} {x : Str} {p pt pos : Pos} (hK : X.K = G.K) (D : IsX G L c) (hg : Gl X "isinstance") (hm : X.mg "isinstance" = none) (hgt : Gl X x) (hmt : X.mg x = some (.ref (G.ct c))) (ha : PE X a (tE G fn EX fa)) (hd : (x == ("__debug__" : Str)) = false := by decide)
    (he : starEach [a, .Name x pt] X.env = (false, eval a X.env) :: starEach [.Name x pt] X.env := by rfl) (he2 : starEach [.Name x pt] X.env = (false, eval (.Name x pt) X.env) :: starEach [] X.env := by rfl) (hpl : (backTo pos (starEach [.Name x pt] X.env)).any (·.1) = false := by rfl) :
    PE X (.Call (.Name "isinstance" p) [a, .Name x pt] [] pos) (tE G fn EX (e_isX L c fa)) :=
  PE.imp (pe_callB call_isAny hg hm (by decide +kernel) (pa_cons ha (pa_cons (pe_glob (v := .ref (G.ct c)) hgt hmt rfl hd) pa_nil he2) he) (by decide) (by decide) he hpl) fun τ H Q h => by
    obtain ⟨ρ, σ, μ, R, S, h⟩ := h
    refine Zc4 R S h fun ρ1 x μ1 v H1 g1 R1 S1 rx h => ?_
    split at h
    · rename_i t e
      exact .inl ⟨v, .ref (G.ct c), .type t, .ref (G.ct c), false, rfl, .own _, by rw [hK]; exact tyW_at R1 rx e, by rw [hK]; exact D.no t (tyW_mem e), h ρ1 H1 _ g1 R1 rfl⟩
    · split at h
      · rename_i k e
        split at h
        · rename_i hm
          obtain ⟨p, d, fs, e1, e2, e3⟩ := getX_at R1 rx e
          subst e1
          obtain ⟨q1, q2⟩ := D.ex k hm
          exact .inr ⟨p, G.ct k, d, fs, G.ct c, _, rfl, by rw [hK]; exact q1, e2, e3, by rw [hK]; exact q2, h ρ1 H1 _ g1 R1 rfl⟩
        · exact h.elim
      · exact h.elim
/-! ### try: i = f(..) / except ThemeError as j: i = j -/
end
end Vs
/-! Errors: the classes, raise, try. -/
namespace Vs
open PySem PySem.Spec PyProof.Rows L2
/-- a class of errors, called x, at C, its __init__ at fI, its field f -/
structure ErrC (K : PySem.W.Frag) (mg : Str → Option Value) (x f : Str) (C fI : Addr) (fd : FuncData) : Prop where
  ox : OexC K C
  iC : PySem.W.findIn K (.ref C) "__init__" = some (some (.ref fI))
  tI : PySem.W.typeIn K (.ref fI) = some (.type "function")
  no : PySem.W.findIn K (.ref C) f = some none
  mgC : mg x = some (.ref C)
  bd : Binds K fd ["self", f] []
noncomputable def spInit (K : PySem.W.Frag) (C : Addr) (f : Str) : Sp := fun vs H Q _ => ∃ a y, vs = [.ref a, y] ∧ OexC K C ∧ PySem.W.findIn K (.ref C) f = some none ∧ H a = some (exo a C none) ∧
  ∀ dx, H dx = none → dx ≠ a → Q .non (upd (upd H dx (exd dx [(f, y)])) a (exo a C (some dx)))
section
variable {P : Program} {w : World} {K : PySem.W.Frag} {mg : Str → Option Value} {base : Heap}
theorem ok_err {x qual f : Str} {params : Arguments} {body : List Stmt} {scope : Scope} {dvs : List V} {kws : List (Str × V)} {C fI : Addr} {fd : FuncData} (F : FunD K x qual params body scope dvs kws fI fd) (S : FnScope ["self", f] ["self", f] scope)
    (hb : ∀ (cdv : Value) (A : Around) (outer : List Env) (s : Shared) (H : Hp) (E : XK), PSs (cxOf CX0 P w K mg base ["self", f] qual scope fI cdv A outer s H E) body (tOst K f (tVar 0) (tVar 1))) :
    FnOk P w K mg base CX0 1 fI fd ["self", f] (spInit K C f) := by
  refine F.ok S (fun vs H Q E z => ?_) (fun cdv A outer s H vs Q E hr z => ⟨_, hb cdv A outer s H E, ?_⟩)
  · obtain ⟨a, y, rfl, _⟩ := z
    rfl
  · obtain ⟨a, y, rfl, T, hno, ea, q⟩ := z
    exact ⟨y, rfl, .ref a, rfl, a, C, rfl, T, hno, .inl ⟨ea, fun dx h1 h2 => q dx h1 h2⟩⟩
end
section
variable {X : Cx} {G : Gt} {fn : Nat → Str} {EX : XK} {a : Expr} {r : AM} {pos : Pos}
theorem vs_raise {c k : Nat} {x f : Str} {fI : Addr} {fd : FuncData} {p pos2 : Pos} (hc : X.calm = true) (tk : Takes X fun cls d _ H => EX cls d H) (T : ErrC X.K X.mg x f (G.ct c) fI fd) (F : FnOk X.prog X.w X.K X.mg X.base CX0 k fI fd ["self", f] (spInit X.K (G.ct c) f)) (hr : Room (k + 1) X.A) (hg : Gl X x) (hf : fn c = f)
    (ha : PA X [a] (tA G fn EX r)) (hdb : (x == ("__debug__" : Str)) = false := by decide) (he : starEach [a] X.env = (false, eval a X.env) :: starEach [] X.env := by rfl) (hpl : (backTo pos (starEach [] X.env)).any (·.1) = false := by rfl) :
    PS X (.Raise (some (.Call (.Name x p) [a] [] pos)) none pos2) (tS G fn EX (s_raise c r)) := by
  refine PS.imp (ps_raise hc tk (pmk_oex (dvs := []) (ds := []) T.ox T.iC T.tI F hr T.bd .nil Zbu hg T.mgC ha hdb he hpl)) fun D τ H h => ?_
  obtain ⟨ρ, σ, μ, R, S, h⟩ := h
  refine ⟨ρ, σ, μ, R, S, ?_⟩
  have h := wpR_bind.mp h
  cases e : r σ μ with
  | exc c w m => rw [e] at h; exact h
  | bad => rw [e] at h; exact h.elim
  | ok ws m =>
    rw [e] at h
    match ws, h with
    | [w], h =>
      refine fun ρ1 H1 vs g1 R1 rx => ?_
      cases rx with
      | @cons _ y _ ys ry t =>
        cases t
        refine ⟨by simp, fun b nb => ⟨b, y, rfl, T.ox, T.no, upd_same, fun dx n ne => ⟨rfl, dx, [(f, y)], upd_same, ?_, ?_, ?_⟩⟩⟩
        · rw [upd_ne ne, upd_same]
        · rwa [upd_ne ne] at n
        · have n1 : H1 dx = none := by rwa [upd_ne ne] at n
          have eq : upd (del (upd (upd (upd H1 b (exo b (G.ct c) none)) dx (exd dx [(f, y)])) b (exo b (G.ct c) (some dx))) b) dx (.xd [(f, y)]) = upd H1 dx (.xd [(f, y)]) := by
            funext z
            by_cases e1 : z = dx
            · rw [e1, upd_same, upd_same]
            · rw [upd_ne e1, upd_ne e1]
              by_cases e2 : z = b
              · rw [e2, del_same, nb]
              · rw [del_ne e2, upd_ne e2, upd_ne e1, upd_ne e2]
          rw [eq]
          have R2 : Rel G ρ1 m (upd H1 dx (.xd [(f, y)])) := R1.keep fun l a q => upd_ne (R1.trk q n1)
          exact h ρ1 _ y dx g1 R2 ry (by rw [hf]; exact upd_same) fun l q => R1.trk q n1 rfl
    | [], h => exact h.elim
    | _ :: _ :: _, h => exact h.elim
end
end Vs
/-! A list unpacked. -/
namespace Vs
open PySem L2
section
variable {X : Cx} {G : Gt} {gs : GMs} {es : List Expr} {pos : Pos}
end
end Vs
/-! sorted({a text for .. in .. if ..}) -/
namespace Vs
open PySem L2
/-! ### with memory: the set grows at place d -/
section
variable {G : Gt} {ρ : Rho} {μ : Mem} {H : Hp}
end
section
variable {G : Gt} {fn : Nat → Str} {EX : XK} {I : IM} {g : GM} {t : TM} {e : EM} {vs : List Nat} {τ : L2.St} {H : Hp} {Q : VK} {tt : TT}
end
section
variable {X : Cx} {G : Gt} {fn : Nat → Str} {EX : XK} {elt tg iter c : Expr} {scope : Scope} {pos : Pos} {I : IM} {g : GM} {t : TM} {fe : EM}
end
/-! ### over trees -/
section
variable {lk : Option Nat}
end
end Vs
/-! Errors over trees: raised, let out of defs, caught and kept, asked for their class; calls by keywords. -/
namespace Vs
open PySem L2
/-! ### try, where errors of the classes L alone may come -/
noncomputable def Zm6 (fn : Nat → Str) (L : List Nat) (i j : Nat) (e : EM) : SM := fun σ μ => match e σ μ with
  | .ok w m => .ok (.nx (σ.set i (some w))) m
  | .exc c w m => if c ∈ L then .ok (.nx ((σ.set i (some (.loc (m.length + 1)))).set j none)) (m ++ [.xdc (fn c) w, .exn c m.length]) else .bad
  | .bad => .bad
section
variable {X : Cx} {G : Gt} {fn : Nat → Str} {EX : XK} {a : Expr} {pos : Pos}
theorem i_tryL {L : List Nat} {i j : Nat} {e : EM} {c : Value} {D : Ends} {τ : L2.St} {H : Hp} (hij : i ≠ j) (hm : ∀ k ∈ L, PySem.W.exmOne G.K (.ref (G.ct k)) c = some true) (h : tS G fn EX (Zm6 fn L i j e) D τ H) :
    tE G fn (fun cls d H' => wKeep G.K c i j D cls d τ H') e τ H fun v H' => D.nx (τ.set i (some v)) H' := by
  obtain ⟨ρ, σ, μ, R, S, h⟩ := h
  refine ⟨ρ, σ, μ, R, S, ?_⟩
  unfold Zm6 at h
  cases q : e σ μ with
  | ok w m =>
    rw [q] at h
    exact fun ρ1 H1 v g1 R1 r => h ρ1 H1 g1 R1 _ (Zhl (w := some w) (v := some v) r i (RS.mono g1 S))
  | exc k w m =>
    rw [q] at h
    dsimp only at h
    split at h
    · rename_i hk
      refine fun ρ1 H1 v d g1 R1 r ed fr => ⟨_, _, rfl, rfl, hm k hk, fun a na => ?_⟩
      have ad : a ≠ d := fun z => by rw [z, ed] at na; cases na
      have R2 := R1.adopt (p := d) (o := .xdc (fn k) w) fr ⟨v, ed, RV.mono (Gr.snoc _ _) r⟩
      have R3 := R2.new (p := a) (o := .exn k m.length) (u := exnO a (G.ct k) d) na fun ρ' g' => ⟨d, g'.1 _ _ (by
        show (ρ1.ad ++ [d])[m.length]? = some d
        rw [← R1.len]; simp), upd_same⟩
      have gg : Gr ρ ((ρ1.push d).push a) := (g1.trans (Gr.snoc _ _)).trans (Gr.snoc _ _)
      have e2 : m ++ [O.xdc (fn k) w] ++ [O.exn k m.length] = m ++ [.xdc (fn k) w, .exn k m.length] := by simp
      rw [e2] at R3
      refine h _ _ gg R3 _ ?_
      have ra : RV ((ρ1.push d).push a) (.loc (m.length + 1)) (.ref a) := ⟨a, by
        show ((ρ1.ad ++ [d]) ++ [a])[m.length + 1]? = some a
        rw [← R1.len]; simp, rfl⟩
      have S1 := RS.mono gg S
      have S2 := Zhl (ρ := (ρ1.push d).push a) (w := none) (v := none) True.intro j (Zhl (w := some (.loc (m.length + 1))) (v := some (V.ref a)) ra i S1)
      have e3 : ((τ.set j (some (V.ref a))).set i (some (.ref a))).set j none = (τ.set i (some (.ref a))).set j none := by
        rw [List.set_comm _ _ (Ne.symm hij), List.set_set]
      rw [e3]
      exact S2
    · exact h.elim
  | bad =>
    rw [q] at h
    exact h.elim
theorem vs_tryL {L : List Nat} {i j : Nat} {x n : Str} {c : Value} {e : EM} {tg a2 : Expr} {np p1 p2 p3 pos' : Pos} {st : Stmt} (hK : X.K = G.K) (hij : i ≠ j) (hm : ∀ k ∈ L, PySem.W.exmOne G.K (.ref (G.ct k)) c = some true) (hex : X.ex = []) (hs : X.stack = X.env :: X.outer) (hf : X.env.frame = some X.env.locals) (hN : X.N.Nodup) (hj : X.N[j]? = some n) (hln : X.env.kindOf n = some .local) (hc : Names X x c)
    (hb : ∀ (W : WX) (pn : List (Addr × Obj)) (xe : Value → Shared → Prop), Takes (X.tr pn xe) W → PassesOwn (model X.prog X.w) X.A X.env xe → PSs (X.tr pn xe) [.Assign [tg] a p3] (tAsg (fun σ H Q => tE G fn (WE W σ) e σ H Q) (gName i)))
    (hsu : ∀ (a : Addr) (oe : Obj) (pn : List (Addr × Obj)), PSs (X.suite a ((a, oe) :: pn)) [st] (tAsg (tVar j) (gName i))) :
    PS X (.Try [.Assign [tg] a p3] [.ExceptHandler (some (.Name x np)) (some n) [st] pos'] [] [] pos) (tS G fn EX (Zm6 fn L i j e)) := by
  refine PS.imp (ps_tryKeep (i := i) hex hs hf hN hj hln hc hb fun a oe pn => PSs.imp (hsu a oe pn) fun D σ H h => h) fun D τ H h => ?_
  rw [hK]
  exact i_tryL hij hm h
end
/-! ### over trees -/
noncomputable def popX (n : Nat) : Rd T → Rd T
  | .ok t s => match fr n s FU t, frS n s (s.take n) with
    | some t', some s' => .ok t' s'
    | _, _ => .bad
  | .exc k t s => match fr n s FU t, frS n s (s.take n) with
    | some t', some s' => .exc k t' s'
    | _, _ => .bad
  | .bad => .bad
noncomputable def dfnOfX (k : Nat) (b : DSt) : DFn := fun ts s => popX s.length ((b (ts.map some ++ List.replicate (k - ts.length) none) s).bind fun f s1 => match f with
  | .rt t => .ok t s1
  | .nx _ => .ok .non s1
  | _ => .bad)
noncomputable def xs_raise (c : Nat) (a : DA) : DSt := fun δ s => (a δ s).bind fun ts s1 => match ts with
  | [t] => .exc c t s1
  | _ => .bad
noncomputable def Zkl (L : List Nat) (i j : Nat) (e : DE) : DSt := fun δ s => match e δ s with
  | .ok t s1 => .ok (.nx (δ.set i (some t))) s1
  | .exc c t s1 => if c ∈ L then .ok (.nx ((δ.set i (some (.exn c t))).set j none)) s1 else .bad
  | .bad => .bad
noncomputable def x_isX (L : List Nat) (c : Nat) (a : DE) : DE := fun δ s => (a δ s).bind fun x s1 => match tyT s1 x with
  | some _ => .ok (.bl false) s1
  | none => match x with
    | .exn k _ => if k ∈ L then .ok (.bl (decide (k = c))) s1 else .bad
    | _ => .bad
section
variable {lk : Option Nat}
theorem rr_popX {c : List Nat} {μ : Mem} {s0 : Sd} {r : Rs W} {d : Rd T} (h0 : CO lk c μ s0) (h : RR lk (Dt lk) c μ r d) : RR lk (Dt lk) c μ r (popX s0.length d) := by
  cases d with
  | bad => exact True.intro
  | exc n t s =>
    obtain ⟨w, m, c', rfl, x, o, q⟩ := h
    unfold popX
    dsimp only
    split
    · rename_i t' s' e1 e2
      obtain ⟨e, rfl, he⟩ := x.gr
      rw [← h0.len] at e1 e2
      exact ⟨w, m, c, rfl, x.pop, o.pop e2, (fr_ok o FU).one q e1⟩
    · exact True.intro
  | ok t s =>
    obtain ⟨w, m, c', rfl, x, o, q⟩ := h
    unfold popX
    dsimp only
    split
    · rename_i t' s' e1 e2
      obtain ⟨e, rfl, he⟩ := x.gr
      rw [← h0.len] at e1 e2
      exact ⟨w, m, c, rfl, x.pop, o.pop e2, (fr_ok o FU).one q e1⟩
    · exact True.intro
theorem rf_defX {k : Nat} {b : SM} {db : DSt} (hb : RSt none b db) : RF (fnOf k b) (dfnOfX k db) := by
  intro lk e c μ ws ts s h d
  subst e
  unfold dfnOfX fnOf
  refine rr_popX h ((hb h (Zma d)).bind fun f s1 x μ1 c1 n1 h1 dx => ?_)
  cases f with
  | nx δ1 =>
    obtain ⟨σ1, rfl, sd1⟩ := dx
    exact Zdr h1 Zmi
  | rt t =>
    obtain ⟨w, rfl, d⟩ := dx
    exact Zdr h1 d
  | _ => exact True.intro
theorem rs_raise {c : Nat} {a : AM} {da : DA} (ha : RA lk a da) : RSt lk (s_raise c a) (xs_raise c da) := fun h sd => (ha h sd).bind fun ts s1 ws μ1 c1 n1 h1 dx => by
  match ts, dx with
  | [t], dx =>
    obtain ⟨w, rfl, d⟩ := Zj9 dx
    exact ⟨w, μ1, c1, rfl, Nx.refl _ _, h1, d⟩
  | [], dx => exact True.intro
  | _ :: _ :: _, dx => exact True.intro
theorem rs_tryL {L : List Nat} {i j : Nat} {e : EM} {de : DE} (he : RE lk e de) : RSt lk (Zm6 FN L i j e) (Zkl L i j de) := fun {c μ σ δ s} h sd => by
  have r := he h sd
  unfold Zm6 Zkl
  cases q : de δ s with
  | bad => exact True.intro
  | ok t s1 =>
    rw [q] at r
    obtain ⟨w, m, c', e2, x, o, d⟩ := r
    rw [e2]
    exact ⟨_, m, c', rfl, x, o, _, rfl, Zhn (Zg8 d) i (sd.mono x)⟩
  | exc k t s1 =>
    rw [q] at r
    obtain ⟨w, m, c', e2, x, o, d⟩ := r
    rw [e2]
    dsimp only
    split
    · have n1 : Nx c' m c' (m ++ [.xdc (FN k) w, .exn k m.length]) := ⟨⟨[], by simp, fun _ h => nomatch h⟩, fun l u _ e => by rw [List.getElem?_append_left (Zdf e)]; exact e, by simp⟩
      have fr1 : ∀ l, m.length ≤ l → l ∉ c' := fun l hl hm => by
        have := o.low hm
        omega
      refine ⟨_, _, c', rfl, x.trans n1, ?_, _, rfl, ?_⟩
      · refine ⟨o.len, o.nd, fun k' l ob a b => ?_⟩
        obtain ⟨u, e3, du⟩ := o.ob k' l ob a b
        exact ⟨u, by rw [List.getElem?_append_left (Zdf e3)]; exact e3, du.mono n1⟩
      · refine Zhn (w := none) (t := none) True.intro j (Zhn (Zg8 ?_) i ((sd.mono x).mono n1))
        unfold Dt
        exact ⟨m.length + 1, m.length, FN k, w, rfl, fr1 _ (by omega), fr1 _ (Nat.le_refl _), by rw [List.getElem?_append_right (by omega)]; simp, by rw [List.getElem?_append_right (Nat.le_refl _)]; simp, d.mono n1⟩
    · exact True.intro
theorem r_isX {L : List Nat} {cc : Nat} {a : EM} {da : DE} (ha : RE lk a da) : RE lk (e_isX L cc a) (x_isX L cc da) := fun h sd => (ha h sd).bind fun tx s1 x μ1 c1 n1 h1 dx => by
  cases e : tyT s1 tx with
  | some k =>
    simp only [e, tyT_at h1 dx e]
    exact Zdr h1 (Zgi _)
  | none =>
    simp only [e]
    cases tx with
    | exn k t =>
      unfold Dt at dx
      obtain ⟨l, dl, f, v, rfl, _, _, e1, e2, _⟩ := dx
      have ty : tyW μ1 (.loc l) = none := by unfold tyW; simp only [e1]
      have gx : getX μ1 (.loc l) = some k := by unfold getX; simp only [e1, e2]
      simp only [ty, gx]
      split
      · exact Zdr h1 (Zgi _)
      · exact True.intro
    | _ => exact True.intro
end
end Vs
/-! Errors as the generator prints them. -/
namespace Vs
open PySem PySem.Spec PyProof.Rows L2
section
variable {P : Program} {w : World} {K : PySem.W.Frag} {mg : Str → Option Value} {base : Heap} {N : List Str} {qual : Str} {scope : Scope} {f : Addr} {cd : Value} {A : Around} {outer : List Env} {s : Shared} {H : Hp} {E : XK}
theorem takes_cx : Takes (cxOf (L2.CX P w) P w K mg base N qual scope f cd A outer s H E) (fun cls d _ H' => E cls d H') := takes_of rfl rfl rfl rfl
end
section
variable {X : Cx} {G : Gt} {fn : Nat → Str} {EX : XK} {r : AM} {pos : Pos} {kws : List Keyword}
end
end Vs
/-! What is made and changed within a block stays as it is behind it: its cells become trees. -/
namespace Vs
open PySem L2
section
variable {lk : Option Nat}
theorem seq_assoc (a b c : SM) : Zcg (Zcg a b) c = Zcg a (Zcg b c) := by
  funext σ μ
  unfold Zcg Rs.bind
  cases a σ μ with
  | ok f m => cases f <;> rfl
  | exc n w m => rfl
  | bad => rfl
theorem rs_assoc {a b c : SM} {d : DSt} (h : RSt lk (Zcg (Zcg a b) c) d) : RSt lk (Zcg a (Zcg b c)) d := by
  rw [← seq_assoc]; exact h
end
end Vs
/-! The field of an error that is kept; an own + whose error is caught. -/
namespace L2
open PySem PySem.Spec PyProof.Rows Vs
noncomputable def tXfK (K : PySem.W.Frag) (n : Str) (te : TE) : TE := fun σ H Q => te σ H fun x H1 => ∃ (a D d : Addr) (fs : List (Str × V)) (v : V), x = .ref a ∧ XfC K D ∧ PySem.W.findIn K (.ref D) n = some none ∧ H1 a = some (exnO a D d) ∧ H1 d = some (.xd fs) ∧ fs.lookup n = some v ∧ Q v H1
theorem pe_xfK {X : Cx} {e : Expr} {te : TE} {pos : Pos} {n : Str} (he : PE X e te) (hb : attributeBase e n X.env (eval e X.env) = eval e X.env := by rfl) : PE X (.Attribute e n pos) (tXfK X.K n te) := by
  refine ⟨fun pins s σ H Q I h => ?_⟩
  refine attr_of hb (thn (he.run pins s σ H _ I h) fun u s1 hh => ?_)
  obtain ⟨x, H1, I1, rx, a, C, d, fs, v, ex, T, hno, ea, ed, l, q⟩ := hh
  subst ex
  obtain rfl : u = Value.ref a := rx
  obtain ⟨⟨oe, vs, g, hz, hd⟩, _, _⟩ := (show ObjOk X.prog X.w H1 s1.heap a (exnO a C d) from I1.hok a _ ea)
  have hx : ObjOk X.prog X.w H1 s1.heap d (.xd fs) := I1.hok d _ ed
  obtain ⟨mA, hns, hr⟩ := hx
  obtain ⟨od, ho, hl⟩ := lookIn_ns hns
  obtain ⟨u, hu, ru⟩ := RelO.some_of (v := v) (o := mA n) (by rw [← l]; exact hr n)
  have J : PySem.W.InstAt s1.heap a oe C (some od) := ⟨g, hz.1, by unfold PySem.W.notCls; rw [hd] <;> rfl, by rw [hz.2]; exact ho⟩
  exact HandSPX.exc_get I1.kIn J T.ga T.gg T.exC (PySem.W.findObj_own T.hdC hno rfl (by rw [hl, hu])) (handed_of ru) ⟨v, H1, I1.tok _, ru, q⟩
end L2
namespace Vs
open PySem PySem.Spec PyProof.Rows L2
/-- the field f of an error of the class c -/
noncomputable def e_fldX (c : Nat) (f : Str) (a : EM) : EM := fun σ μ => (a σ μ).bind fun x μ1 => match x with
  | .loc l => match μ1[l]? with
    | some (.exn k dl) => match μ1[dl]? with
      | some (.xdc g w) => if k = c ∧ g = f then .ok w μ1 else .bad
      | _ => .bad
    | _ => .bad
  | _ => .bad
section
variable {X : Cx} {G : Gt} {fn : Nat → Str} {EX : XK} {a : Expr} {fa : EM} {pos : Pos}
theorem v_fldX {c : Nat} {f : Str} (hK : X.K = G.K) (T : XfC G.K (G.ct c)) (no : PySem.W.findIn G.K (.ref (G.ct c)) f = some none) (ha : PE X a (tE G fn EX fa)) (hb : attributeBase a f X.env (eval a X.env) = eval a X.env := by rfl) :
    PE X (.Attribute a f pos) (tE G fn EX (e_fldX c f fa)) :=
  PE.imp (pe_xfK ha hb) fun τ H Q h => by
    obtain ⟨ρ, σ, μ, R, S, h⟩ := h
    refine Zc4 R S h fun ρ1 x μ1 v H1 g1 R1 S1 rx y => ?_
    split at y
    · rename_i l
      split at y
      · rename_i k dl e1
        split at y
        · rename_i g w e2
          split at y
          · rename_i hh
            obtain ⟨rfl, rfl⟩ := hh
            obtain ⟨p, ep, rfl⟩ := (show RV ρ1 (.loc l) v from rx)
            obtain ⟨d, ed, h1⟩ := R1.obj l _ p e1 ep
            obtain ⟨v2, h2, r2⟩ := R1.obj dl _ d e2 ed
            exact ⟨p, _, d, _, v2, rfl, by rw [hK]; exact T, by rw [hK]; exact no, h1, h2, by simp, y ρ1 H1 _ g1 R1 r2⟩
          · exact y.elim
        · exact y.elim
      · exact y.elim
    · exact y.elim
end

section
variable {X : Cx} {CX : CXT} {C g : Addr} {n : Nat} {sp : Sp} {E : XK}
end
section
variable {X : Cx} {G : Gt} {fn : Nat → Str} {CX : CXT} {a b : Expr} {es : List Expr} {fa fb : EM} {r : AM} {pos p : Pos} {c k n : Nat} {d : Fn} {f : Addr} {fd : FuncData} {ps : List Str} {x : Str} {E : L2.St → XK}
theorem vs_tryE {EX : XK} {L : List Nat} {i j : Nat} {y z m : Str} {cv : Value} {e : EM} {py pn2 p1 np pa pb pos' posT : Pos} (hK : X.K = G.K) (hm : ∀ k ∈ L, PySem.W.exmOne G.K (.ref (G.ct k)) cv = some true)
    (hex : X.ex = []) (hs : X.stack = X.env :: X.outer) (hf : X.env.frame = some X.env.locals) (hN : X.N.Nodup) (hc : Names X z cv)
    (he : ∀ (W : WX) (pn : List (Addr × Obj)) (xe : Value → Shared → Prop), Takes (X.tr pn xe) W → PE (X.tr pn xe) a (fun σ H Q => tE G fn (WE W σ) e σ H Q)) (hi : X.N[i]? = some y := by rfl) (hj : X.N[j]? = some m := by rfl) (hij : i ≠ j := by decide) (hln : X.env.kindOf m = some .local := by rfl) (hx : Loc X.env.scope y := by first | exact Or.inl rfl | exact Or.inr rfl)
    (hs1 : swapsWith a (some (.Name y py)) p1.line X.env = pure false := by rfl) (hs2 : swapsWith (.Name m pn2) (some (.Name y pa)) pb.line X.env = pure false := by rfl)
    (hfn : X.fn y = true ∨ X.env.scope.names.lookup y = some .local := by first | exact .inl rfl | exact .inr rfl) (hv : Vis X.env.scope m := by first | exact Or.inl rfl | exact Or.inr rfl) (hd1 : (m == ("__debug__" : Str)) = false := by decide) (hd2 : (m == ("__classdict__" : Str)) = false := by decide) :
    PS X (.Try [.Assign [.Name y py] a p1] [.ExceptHandler (some (.Name z np)) (some m) [.Assign [.Name y pa] (.Name m pn2) pb] pos'] [] [] posT) (tS G fn EX (Zm6 fn L i j e)) :=
  vs_tryL (a2 := .Name m pn2) (p1 := p1) (p2 := p1) hK hij hm hex hs hf hN hj hln hc
    (fun W pn xe tk po => pss_one (ps_set (X := X.tr pn xe) hN hi hx (he W pn xe tk) hs1 hfn))
    (fun a oe pn => pss_one (ps_set (X := X.suite a ((a, oe) :: pn)) hN hi hx (pe_var (X := X.suite a ((a, oe) :: pn)) hj hv hd1 hd2) hs2 hfn))
end
end Vs
/-! The field of a kept error, over trees. -/
namespace Vs
open PySem L2
noncomputable def x_fldX (c : Nat) (f : Str) (a : DE) : DE := fun δ s => (a δ s).bind fun x s1 => match x with
  | .exn k t => if k = c ∧ FN c = f then .ok t s1 else .bad
  | _ => .bad
section
variable {lk : Option Nat}
theorem r_fldX {c : Nat} {f : Str} {a : EM} {da : DE} (ha : RE lk a da) : RE lk (e_fldX c f a) (x_fldX c f da) := fun h sd => (ha h sd).bind fun tx s1 x μ1 c1 n1 h1 dx => by
  cases tx with
  | exn k t =>
    unfold Dt at dx
    obtain ⟨l, dl, _, v, rfl, _, _, e1, e2, d⟩ := dx
    dsimp only
    by_cases hh : k = c ∧ FN c = f
    · rw [if_pos hh]
      obtain ⟨rfl, rfl⟩ := hh
      simp only [e1, e2, and_self, if_true]
      exact Zdr h1 d
    · rw [if_neg hh]
      exact True.intro
  | _ => exact True.intro
end
end Vs
/-! xs.pop(i), and list(x) as a cell. -/
namespace Vs
open PySem PySem.Spec PyProof.Rows L2
section
variable {G : Gt}
end
section
variable {lk : Option Nat}
end
end Vs
/-! A try whose ways set the same name; isinstance against a class of errors, of books, too. -/
namespace Vs
open PySem PySem.Spec PyProof.Rows L2
section
variable {X : Cx} {G : Gt} {fn : Nat → Str} {fc : TM} {fa fb : EM} {i : Nat} {a c : Expr} {bs os : List Stmt} {pos : Pos} {E : L2.St → XK}
end
/-! ### isinstance -/
/-- what the written part says of the class c of errors, those of the classes L and the books known; those of Y are of it -/
structure IsZ (G : Gt) (L Y : List Nat) (c : Nat) : Prop where
  no : ∀ t ∈ (["NoneType", "bool", "int", "str", "list", "tuple", "dict"] : List String), PySem.W.kitOne G.K (.type t) (.ref (G.ct c)) = some false
  bk : PySem.W.kitOne G.K (.ref (G.ct 0)) (.ref (G.ct c)) = some false
  ex : ∀ k ∈ L, L2.ExcC G.K (G.ct k) ∧ PySem.W.kitOne G.K (.ref (G.ct k)) (.ref (G.ct c)) = some (decide (k ∈ Y))
section
variable {G : Gt} {L : List Nat} {c : Nat}
theorem IsZ.one (no : ∀ t ∈ (["NoneType", "bool", "int", "str", "list", "tuple", "dict"] : List String), PySem.W.kitOne G.K (.type t) (.ref (G.ct c)) = some false) (bk : PySem.W.kitOne G.K (.ref (G.ct 0)) (.ref (G.ct c)) = some false) (exs : ∀ k ∈ L, L2.ExcC G.K (G.ct k)) (kx : ∀ k ∈ L, PySem.W.kitOne G.K (.ref (G.ct k)) (.ref (G.ct c)) = some (decide (k = c))) : IsZ G L [c] c :=
  ⟨no, bk, fun k h => ⟨exs k h, by rw [kx k h]; simp⟩⟩
end
section
variable {X : Cx} {G : Gt} {fn : Nat → Str} {EX : XK} {a : Expr} {fa : EM}
end
section
variable {lk : Option Nat}
end
end Vs
/-! A def that calls itself, beyond the depth that is told of. -/
namespace Vs
open PySem PySem.Spec PyProof.Rows L2
end Vs
/-! len(x), and v not in x, x an instance of a class of the program. -/
namespace Vs
open PySem PySem.Spec PyProof.Rows L2
section
variable {X : Cx} {CX : CXT} {C g : Addr} {n : Nat} {sp : Sp} {E : XK}
end
section
variable {G : Gt} {fn : Nat → Str} {EX : XK} {a b : EM} {τ : L2.St} {H : Hp} {Q : VK} {c : Nat} {f : Fn}
end
section
variable {X : Cx} {G : Gt} {fn : Nat → Str} {EX : XK} {a b : Expr} {fa fb : EM} {pos : Pos} {c : Nat} {f : Fn} {CX : CXT} {n : Nat} {g : Addr} {fd : FuncData} {ps : List Str}
end
/-! over trees -/
section
variable {n : Nat} {f : Fn} {d : DFn} {a b : EM} {da db : DE}
end
end Vs
/-! repr of lists and tuples of data, where no guard runs. -/
namespace Vs
open PySem PySem.Spec PyProof.Rows L2
noncomputable def reprOk (d : PyData) : Bool := d.showable && decide (d.shown.length ≤ sizeLine)
section
variable {X : Cx}
end
section
variable {X : Cx} {G : Gt} {fn : Nat → Str} {EX : XK} {a : Expr} {fa : EM} {pos : Pos}
end
/-! over trees -/
end Vs
/-! A def's promise where no guard runs; the law's end from such a promise. -/
namespace Vs
open PySem PySem.Spec PyProof.Rows L2
/-- as FnOk without errors, asked only where no guard runs -/
structure FnG (P : Program) (w : World) (K : PySem.W.Frag) (mg : Str → Option Value) (base : Heap) (k : Nat) (f : Addr) (fd : FuncData) (ps : List Str) (sp : Sp) : Prop where
  len : ∀ vs H Q E, sp vs H Q E → vs.length = ps.length
  go : ∀ {A : Around} {outer : List Env} {s : Shared} {H : Hp} {args : Args} {us : List Value} {vs : List V} {Q : VK} {E : XK}, A.guards = some [] → Room k A → Env0 P w K mg base A outer s H →
    BindsTo s fd args (ps.zip us) → Vals vs us → sp vs H Q E → codeAny (model P w) A (.call (.ref f) args) (CR CX0 outer P w H s Q E) s
section
variable {P : Program} {w : World} {K : PySem.W.Frag} {mg : Str → Option Value} {base : Heap}
theorem fun_okG {x qual : Str} {st : Stmt} {f : Addr} {fd : FuncData} {N ps : List Str} {k : Nat} {sp : Sp} (F : Fun K x qual st f fd) (S : FnScope N ps (defScope st)) (hlen : ∀ vs H Q E, sp vs H Q E → vs.length = ps.length)
    (body : ∀ (cdv : Value) (A : Around) (outer : List Env) (s : Shared) (H : Hp) (vs : List V) (Q : VK) (E : XK), A.guards = some [] → Room k (A.deeper (envOfC qual (defScope st) s.heap.objs.size f cdv)) → sp vs H Q E →
      ∃ t, PSs (cxOf CX0 P w K mg base N qual (defScope st) f cdv A outer s H E).nox (defBody st) t ∧ t { nx := fun _ H' => Q .non H', rt := Q } (start N vs) H) : FnG P w K mg base (k + 1) f fd ps sp := by
  obtain ⟨_, _, _, _, _, _, cdv, _, _, rfl, look, hcode⟩ := F.ex
  refine ⟨hlen, ?_⟩
  intro A outer s H args us vs Q E gA room env bnd vals ask
  have inK : K.In s.heap := env.mod.kin.keeps fun b o z => (env.bs b o z).1
  have nolim : s.heap.NoLimit := env.mod.nolimit.keeps fun b o z => (env.bs b o z).1
  have kinds : ∀ y ∈ ps.zip us, (defScope st).names.lookup y.1 = some .local ∨ ((defScope st).names.lookup y.1 = some .cell ∧ ((cellsFrom (s.heap.objs.size + 1) (defScope st).names []).lookup y.1).isSome = true) := by
    intro y hy
    have hp := (List.of_mem_zip (show (y.1, y.2) ∈ ps.zip us from hy)).1
    exact (S.par y.1 hp).imp id fun c => ⟨c, PySem.W.cellsFrom_some _ _ _ (.inl c)⟩
  apply codeAny_call_function room.depth (inK _ _ look) rfl S.co S.gen rfl (PySem.W.codeRec_of inK hcode)
  apply bnd
  apply wpAny_newFunctionEnv_cells S.kind kinds
  rintro env' rfl s1 inC
  refine ⟨nolim.keeps inC.toInCall.keep, ?_⟩
  apply codeAny_func
  obtain ⟨t, run, now⟩ := body cdv A outer s H vs Q E gA (room.deeper _) ask
  have inv := inv_start (CX := CX0) (P := P) (w := w) (mg := mg) (base := base) (N := N) (E := E) S room.hd env (hlen _ _ _ _ ask) vals inC
  refine wpAny_mono (run.nox.run [] s1 (start N vs) H _ inv now) ?_ (fun _ _ z => z)
  have back : ∀ {τ : L2.St} {H2 : Hp} {v : V} {u : Value} {s2 : Shared}, Inv (cxOf CX0 P w K mg base N qual (defScope st) f cdv A outer s H E) [] τ H2 s2 → RelV v u → Q v H2 → CE outer P w H s Q u s2 := by
    intro τ H2 v u s2 J rv q
    exact ⟨v, H2, J.os, J.bare, J.base, J.hok, rv, q⟩
  intro fl s2 end_
  cases fl with
  | next => obtain ⟨τ, H2, J, q⟩ := end_; exact back (v := .non) (u := .none) J rfl q
  | ret u => obtain ⟨v, τ, H2, J, rv, q⟩ := end_; exact back J rv q
  | brk =>
    obtain ⟨_, _, _, no⟩ := end_
    exact False.elim no
  | cont =>
    obtain ⟨_, _, _, no⟩ := end_
    exact False.elim no
end
section
variable {P : Program} {w : World} {K : PySem.W.Frag} {mg : Str → Option Value} {base : Heap} {G : Gt} {fn : Nat → Str}
theorem FnG.imp {k : Nat} {f : Addr} {fd : FuncData} {ps : List Str} {sp sp' : Sp} (F : FnG P w K mg base k f fd ps sp) (h : ∀ vs H Q E, sp' vs H Q E → sp vs H Q E) : FnG P w K mg base k f fd ps sp' :=
  ⟨fun vs H Q E ask => F.len vs H Q E (h _ _ _ _ ask), fun gA room env bnd vals ask => F.go gA room env bnd vals (h _ _ _ _ ask)⟩
theorem u66 {k : Nat} {A : Around} (hr : Room k A) : A.units + 66 < cLine := by
  have := hr.un
  omega
theorem Zdi {A : Around} {env : Env} (h : A.guards = some []) : (A.deeper env).guards = some [] := h
theorem v_defG {x qual : Str} {st : Stmt} {f : Addr} {fd : FuncData} {N ps : List Str} {k n : Nat} {b : SM} (hn : ps.length = n) (F : Fun K x qual st f fd) (S : FnScope N ps (defScope st))
    (h : ∀ (cdv : Value) (A : Around) (outer : List Env) (s : Shared) (H : Hp) (E : XK), A.guards = some [] → Room k (A.deeper (envOfC qual (defScope st) s.heap.objs.size f cdv)) → PSs (cxOf CX0 P w K mg base N qual (defScope st) f cdv A outer s H E).nox (defBody st) (tS G fn E b)) :
    FnG P w K mg base (k + 1) f fd ps (spF G fn n (fnOf N.length b)) := by
  refine fun_okG F S (fun vs H Q E z => ?_) (fun cdv A outer s H vs Q E gA room z => ?_)
  · obtain ⟨_, _, ws, _, rel, cnt, _⟩ := z
    rw [← Zeu rel, cnt, hn]
  · obtain ⟨ρ, μ, ws, R, rel, cnt, w0⟩ := z
    refine ⟨_, h cdv A outer s H E gA room, ρ, _, μ, R, rs_start rel, Zbv (wpR_bind.mp w0) ?_ fun _ _ _ z => z⟩
    intro fl μ1 hk ρ1 H1 g1 R1
    match fl, hk with
    | .nx σ, hk => exact fun τ S1 => hk ρ1 H1 .non g1 R1 rfl
    | .rt u, hk => exact fun v r1 => hk ρ1 H1 v g1 R1 r1
    | .bk σ, hk => exact hk.elim
    | .ct σ, hk => exact hk.elim
end
/-! ### a call of such a def -/
section
variable {X : Cx} {G : Gt} {fn : Nat → Str} {EX : XK} {a : Expr} {es : List Expr} {r : AM} {pos : Pos}
theorem v_callG {k n : Nat} {f : Addr} {fd : FuncData} {ps : List Str} {x : Str} {p : Pos} {d : Fn} (F : FnG X.prog X.w X.K X.mg X.base k f fd ps (spF G fn n d)) (gA : X.A.guards = some []) (hr : Room k X.A) (hg : Gl X x) (hm : X.mg x = some (.ref f)) (hk : PySem.W.keepIn X.K (.ref f) = true) (hb : Binds X.K fd ps []) (hl : ALen n r)
    (ha : PA X (a :: es) (tA G fn EX r)) (hdb : (x == ("__debug__" : Str)) = false := by decide) (he : starEach (a :: es) X.env = (false, eval a X.env) :: starEach es X.env := by rfl) (hpl : (backTo pos (starEach es X.env)).any (·.1) = false := by rfl) :
    PE X (.Call (.Name x p) (a :: es) [] pos) (tE G fn EX (e_call d r)) := by
  have key : PE X (.Call (.Name x p) (a :: es) [] pos) (tCall (spF G fn n d) [] EX (tA G fn EX r)) := by
    constructor
    intro pins s σ H Q I want
    apply wpAny_Call_Name_kw
    apply ld_glob I hg hm _ hdb
    apply PySem.W.callWith_K (h₀ := X.base) I.ok.mod.kin hk _ he hpl
    refine thn (ha.run pos pins s σ H _ I want) fun us s1 ⟨vs, H1, I1, rel, ask⟩ => ⟨I1.kIn, ?_⟩
    have ask : spF G fn n d vs H1 Q EX := by
      have z : spF G fn n d (vs ++ []) H1 Q EX := ask
      rwa [List.append_nil] at z
    have cnt : (us ++ []).length = ps.length := by
      rw [List.append_nil, ← rel.length]
      exact F.len _ _ _ _ ask
    have bnd := hb s1 us I1.kIn cnt
    rw [List.append_nil] at bnd
    apply wpAny_call
    refine codeAny_mono (F.go gA hr I1.env0 bnd rel ask) ?_
    intro res s2 fin
    match res, fin with
    | .error e, no => exact no.elim
    | .ok .next, no => exact no.elim
    | .ok .brk, no => exact no.elim
    | .ok .cont, no => exact no.elim
    | .ok (.ret u), yes => exact I1.after yes
  exact PE.imp key fun _ _ _ h => i_call hl h
end
/-! ### the law's end -/
theorem lookup_mem : ∀ {K : PySem.W.Frag} {a : Addr} {o : Obj}, K.lookup a = some o → (a, o) ∈ K
  | [], _, _, h => nomatch h
  | (b, u) :: r, a, o, h => by
    rw [List.lookup_cons] at h
    cases e : a == b with
    | true =>
      rw [e] at h
      cases h
      rw [beq_iff_eq.mp e]
      exact List.mem_cons_self
    | false =>
      rw [e] at h
      exact List.mem_cons_of_mem _ (lookup_mem h)
/-- the script alone is known, as a list of numbers that nobody changes -/
noncomputable def scrH (a : Addr) (o : Obj) (ns : List Int) : Hp := fun b => if b = a then some (.frz o (.lst (ns.map V.int))) else none
theorem scrH_at {a : Addr} {o : Obj} {ns : List Int} : scrH a o ns a = some (.frz o (.lst (ns.map V.int))) := if_pos rfl
theorem scrH_ne {a b : Addr} {o : Obj} {ns : List Int} (h : b ≠ a) : scrH a o ns b = none := if_neg h
theorem law_endG {l : PySem.W.OpenLaw} {n k : Nat} {q : Program} {loose : List Str} {XP : (Str → Option Value) → Heap → Prop} {YP : World → Heap → Prop} {d : DefRec} {K : Params → PySem.W.Frag} {sp : Sp} {x : Str}
    (hn : l.most = some n) (small : n ≤ sizeLine) (hdf : d.params.defaults = []) (room : Room k callerA) (nl : ∀ p, ((K p).all fun q => match q.2.cls with | .type "list" => false | _ => true) = true) (hY : ∀ (w : World) (h : Heap), YP w h → (K w.params).In h)
    (F : ∀ (w : World) (mg : Str → Option Value) (fa : Addr) (h : Heap), (K w.params).In h → h.Ns mainGlobals mg → mg d.name = some (.ref fa) → ∃ fd : FuncData, (∀ (s : Shared) (u : Value), BindsTo s fd ⟨[u], []⟩ [(x, u)]) ∧
      ∀ base : Heap, (K w.params).In base → base.Ns mainGlobals mg → FnG l.prog w (K w.params) mg base k fa fd [x] sp)
    (ask : ∀ (H : Hp) (a : Addr) (o : Obj) (ns : List Int), ns.length ≤ n → H a = some (.frz o (.lst (ns.map V.int))) → sp [.ref a] H (fun v _ => v = .bl true) fun _ _ _ => False) :
    PySem.W.WalkO q loose XP YP l.row.toRowW d [] (fun f vs => PySem.call f vs) := by
  apply Att.attach_call hn hdf
  intro w _ s mg mb fa _ _ _ _ a vs ns ground hyp _ _ _ named script nums len quiet
  have inK := hY w _ hyp
  obtain ⟨fd, binds, promise⟩ := F w mg fa _ inK ground.T.g named
  have notK : (K w.params).lookup a = none := by
    cases e : (K w.params).lookup a with
    | none => rfl
    | some u =>
      have same := (inK a u e).symm.trans script
      cases same
      have bad := List.all_eq_true.mp (nl w.params) _ (lookup_mem e)
      cases bad
  have known : ∀ b, scrH a { cls := .type "list", data := .seq vs.toArray } ns b ≠ none → b = a := fun b z => Classical.byContradiction fun y => z (scrH_ne y)
  generalize hH : scrH a { cls := .type "list", data := .seq vs.toArray } ns = H at known
  have atA : H a = some (.frz { cls := .type "list", data := .seq vs.toArray } (.lst (ns.map V.int))) := by rw [← hH]; exact scrH_at
  have hok : HOk l.prog w H s.heap := by
    intro b u z
    obtain rfl : b = a := known b (by rw [z]; simp)
    rw [atA] at z
    cases z
    exact ⟨script, by rw [List.length_map]; omega, vs, _, vals_ints nums, script⟩
  have keepB : ∀ {b : Addr} {o : Obj}, s.heap.get? b = some o → b ≠ a → (hidT s.heap H).get? b = some o := fun e ne => hidT_get e (Classical.byContradiction fun z => ne (known _ z))
  have keepN : ∀ {b : Addr} {m : Str → Option Value}, s.heap.Ns b m → (hidT s.heap H).Ns b m := by
    rintro b m ⟨o, es, ep, e, dd, r⟩
    refine ⟨o, es, ep, keepB e ?_, dd, r⟩
    rintro rfl
    rw [script] at e
    cases e
    cases dd
  have inB : (K w.params).In (hidT s.heap H) := fun b o e => keepB (inK b o e) (by
    rintro rfl
    rw [notK] at e
    cases e)
  obtain ⟨mc, lim1, lim2⟩ := ground.T.nolimit
  have env : Env0 l.prog w (K w.params) mg (hidT s.heap H) callerA [] s H := by
    refine ⟨rfl, ⟨inB, keepN ground.T.g, ⟨mb, keepN ground.T.b, ground.T.builtins⟩, mc, keepN lim1, lim2⟩, fun b o => of_hidT, Nat.le_of_eq (hidT_size ..), trivial, ?_, hok, .of_eq quiet⟩
    intro b z
    cases z
  have run := (promise _ inB (keepN ground.T.g)).go (A := callerA) (us := [.ref a]) (vs := [.ref a]) rfl room env (binds s (.ref a)) (.cons rfl .nil) (ask H a _ ns len atA)
  refine codeAny_mono run ?_
  intro r s2 res
  match r, res with
  | .error e, no => exact no.elim
  | .ok .next, no => exact no.elim
  | .ok .brk, no => exact no.elim
  | .ok .cont, no => exact no.elim
  | .ok (.ret u), ⟨v, H2, eqos, bare, un, hok2, rel, isT⟩ =>
    have isT : v = .bl true := isT
    subst isT
    have isU : u = .bool true := rel
    subst isU
    refine ⟨rfl, OldK.of_keep ?_, eqos, bare⟩
    intro b o e
    by_cases ba : b = a
    · subst ba
      obtain ⟨e2, _⟩ := hok2 b _ (un.frzs b _ _ atA)
      rw [script] at e
      cases e
      exact e2
    · exact un.keep b o e (Classical.byContradiction fun z => ba (known b z)) (fun z => nomatch z) (by simp)
end Vs
/-! the sort's kind for pairs of a text and an int, texts different. -/
namespace DTi
open PySem PySem.W PySem.Calls PyProof.Rows PyProof.V PySem.Spec
section
variable {prog : Program} {w : World} {A : Around} {E : Value → Shared → Prop} {s : Shared}
noncomputable def PairSI (h : Heap) (v : Value) (y : Str) (n : Int) : Prop := ∃ (a : Addr) (o : Obj) (k : Nat) (t u : Tok), v = .ref a ∧ h.get? a = some o ∧ o.cls = .type "tuple" ∧ o.data = .seq #[Value.str y t, Value.int n u] k
noncomputable def tx1 (h : Heap) (v : Value) : Str := DT.txOf (DT.seqAt0 h (DT.refOf (some v)))
theorem PairSI.tx {h : Heap} {v : Value} {y : Str} {n : Int} (x : PairSI h v y n) : tx1 h v = y := by
  obtain ⟨a, o, k, t, u, rfl, ho, hc, hd⟩ := x
  show DT.txOf (DT.seqAt0 h a) = y
  rw [DT.seqAt0_of (items := #[Value.str y t, Value.int n u]) ⟨o, ho, hc, k, hd⟩]
  rfl
theorem PairSI.keeps {h h' : Heap} {v : Value} {y : Str} {n : Int} (x : PairSI h v y n) (k : ∀ b o, h.get? b = some o → o.cls = .type "tuple" → h'.get? b = some o) : PairSI h' v y n := by
  obtain ⟨a, o, j, t, u, rfl, ho, hc, hd⟩ := x
  exact ⟨a, o, j, t, u, rfl, k _ _ ho hc, hc, hd⟩
end
end DTi
/-! sorted(d.items()) of a dictionary from texts to ints. -/
namespace DTi
open PySem PySem.Spec PyProof.Rows L2 L2.DX
section
variable {X : Cx}
end
end DTi
/-! sorted(d.items()): with memory. -/
namespace Vs
open PySem PySem.Spec PyProof.Rows L2 L2.DX DTi
/-! ### the order -/
end Vs
/-! sorted(d.items()) of a dictionary from texts to ints, with memory: new tuples and their list. -/
namespace Vs
open PySem PySem.Spec PyProof.Rows L2 L2.DX DTi
section
variable {G : Gt} {H : Hp}
end
section
variable {X : Cx} {G : Gt} {fn : Nat → Str} {EX : XK} {e : Expr} {fe : EM} {p apos cpos pos : Pos}
end
end Vs
/-! sorted(d.items()) over trees. -/
namespace Vs
open PySem PySem.Spec L2
section
variable {lk : Option Nat} {c : List Nat}
end
end Vs
/-! A book whose making raises, within a try; a try of an expression. -/
namespace Vs
open PySem PySem.Spec PyProof.Rows L2
section
variable {X : Cx} {CX : CXT} {C f : Addr} {k : Nat} {sp : Sp} {E : XK} {fd : FuncData} {ps : List Str} {ds : List Value} {dvs : List V}
theorem run_makeT {pins : List (Addr × Obj)} {σ : L2.St} {H : Hp} {s : Shared} {Q : VK} {us : List Value} {vs : List V} (M : Mk X.K C f) (F : FnOk X.prog X.w X.K X.mg X.base CX k f fd ps sp) (hr : Room (k + 1) X.A) (hb : Binds X.K fd ps ds) (hd : Vals dvs ds)
    (hx : PassesAt CX X σ E) (I : Inv X pins σ H s) (r : Vals vs us)
    (h : ∀ x dx, H x = none → H dx = none → dx ≠ x → sp (.ref x :: (vs ++ dvs)) (upd (upd H dx (.own x)) x (.ins C dx [])) (fun v H2 => v = .non ∧ Q (.ref x) H2) E) :
    wpAny (model X.prog X.w) X.A (call (.ref C) us) (EP X pins σ Q) X.xe s := by
  have hq := h (s.heap.objs.size + 1) s.heap.objs.size (I.hok.fresh (Nat.le_succ _)) (I.hok.fresh (Nat.le_refl _)) (Nat.ne_of_lt (Nat.lt_succ_self _))
  have I2 := Inv.made (C := C) I
  have r2 : Vals (V.ref (s.heap.objs.size + 1) :: (vs ++ dvs)) (Value.ref (s.heap.objs.size + 1) :: (us ++ ds)) := .cons rfl (r.append hd)
  have hl : (Value.ref (s.heap.objs.size + 1) :: us ++ ds).length = ps.length := by
    have e := r2.length
    rw [F.len _ _ _ _ hq] at e
    exact e.symm
  refine wpAny_call (make_map (f := f) I.kIn M.makes M.init (beq_iff_eq.mp M.fn) (codeAny_mono (F.run _ X.stack _ _ ⟨Value.ref (s.heap.objs.size + 1) :: us, []⟩ (Value.ref (s.heap.objs.size + 1) :: (us ++ ds)) _ _ E (hr.make C us [])
    (I2.env0.make C us []) (hb _ (Value.ref (s.heap.objs.size + 1) :: us) I2.kIn hl) r2 hq) fun r s' hq' => ?_))
  cases r with
  | error e => exact hx pins _ _ e s' I2 hq'
  | ok fl =>
    cases fl with
    | ret u =>
      obtain ⟨v, H', I3, rv, ev, q3⟩ := I2.after hq'
      subst ev
      exact ⟨rv, ⟨V.ref (s.heap.objs.size + 1), H', I3, rfl, q3⟩⟩
    | next => exact False.elim hq'
    | brk => exact False.elim hq'
    | cont => exact False.elim hq'
end
section
variable {X : Cx} {G : Gt} {fn : Nat → Str} {CX : CXT} {a b : Expr} {es : List Expr} {fa fb : EM} {r : AM} {pos p : Pos} {c k n : Nat} {d : Fn} {f g : Addr} {fd : FuncData} {ps : List Str} {x : Str} {E : L2.St → XK}
theorem v_makeE (hK : X.K = G.K) (M : Mk G.K (G.ct c) g) (F : FnOk X.prog X.w X.K X.mg X.base CX k g fd ps (spF G fn (n + 1) d)) (hr : Room (k + 1) X.A) (hg : Gl X x) (hm : X.mg x = some (.ref (G.ct c))) (hb : Binds X.K fd ps []) (hx : ∀ σ, PassesAt CX X σ (E σ)) (hl : ALen n r) (ha : ∀ E, PA X (a :: es) (tA G fn E r))
    (hdb : (x == ("__debug__" : Str)) = false := by decide) (he : starEach (a :: es) X.env = (false, eval a X.env) :: starEach es X.env := by rfl) (hpl : (backTo pos (starEach es X.env)).any (·.1) = false := by rfl) : PE X (.Call (.Name x p) (a :: es) [] pos) (fun σ H Q => tE G fn (E σ) (e_make c d r) σ H Q) := by
  refine ⟨fun pins s σ H Q I h => ?_⟩
  have h := i_make hl h
  have M' : Mk X.K (G.ct c) g := by rw [hK]; exact M
  refine wpAny_Call_Name_kw (ld_glob I hg hm ?_ hdb)
  refine PySem.W.callWith_K (h₀ := X.base) I.ok.mod.kin M'.kp (thn ((ha (E σ)).run pos pins s σ H _ I h) fun us s1 ⟨vs, H1, I1, r, q⟩ => ⟨I1.kIn, ?_⟩) he hpl
  exact run_makeT M' F hr hb .nil (hx σ) I1 r q
end
/-! ### try: e / except ThemeError as j: i = j -/
noncomputable def s_tryX (fn : Nat → Str) (L : List Nat) (i j : Nat) (e : EM) : SM := fun σ μ => match e σ μ with
  | .ok _ m => .ok (.nx σ) m
  | .exc c w m => if c ∈ L then .ok (.nx ((σ.set i (some (.loc (m.length + 1)))).set j none)) (m ++ [.xdc (fn c) w, .exn c m.length]) else .bad
  | .bad => .bad
section
variable {X : Cx} {G : Gt} {fn : Nat → Str} {EX : XK} {a : Expr} {pos : Pos}
theorem i_tryX {L : List Nat} {i j : Nat} {e : EM} {c : Value} {D : Ends} {τ : L2.St} {H : Hp} (hij : i ≠ j) (hm : ∀ k ∈ L, PySem.W.exmOne G.K (.ref (G.ct k)) c = some true) (h : tS G fn EX (s_tryX fn L i j e) D τ H) :
    tE G fn (fun cls d H' => wKeep G.K c i j D cls d τ H') e τ H fun _ H' => D.nx τ H' := by
  obtain ⟨ρ, σ, μ, R, S, h⟩ := h
  refine ⟨ρ, σ, μ, R, S, ?_⟩
  unfold s_tryX at h
  cases q : e σ μ with
  | ok w m =>
    rw [q] at h
    exact fun ρ1 H1 v g1 R1 r => h ρ1 H1 g1 R1 _ (RS.mono g1 S)
  | exc k w m =>
    rw [q] at h
    dsimp only at h
    split at h
    · rename_i hk
      refine fun ρ1 H1 v d g1 R1 r ed fr => ⟨_, _, rfl, rfl, hm k hk, fun a na => ?_⟩
      have ad : a ≠ d := fun z => by rw [z, ed] at na; cases na
      have R2 := R1.adopt (p := d) (o := .xdc (fn k) w) fr ⟨v, ed, RV.mono (Gr.snoc _ _) r⟩
      have R3 := R2.new (p := a) (o := .exn k m.length) (u := exnO a (G.ct k) d) na fun ρ' g' => ⟨d, g'.1 _ _ (by
        show (ρ1.ad ++ [d])[m.length]? = some d
        rw [← R1.len]; simp), upd_same⟩
      have gg : Gr ρ ((ρ1.push d).push a) := (g1.trans (Gr.snoc _ _)).trans (Gr.snoc _ _)
      have e2 : m ++ [O.xdc (fn k) w] ++ [O.exn k m.length] = m ++ [.xdc (fn k) w, .exn k m.length] := by simp
      rw [e2] at R3
      refine h _ _ gg R3 _ ?_
      have ra : RV ((ρ1.push d).push a) (.loc (m.length + 1)) (.ref a) := ⟨a, by
        show ((ρ1.ad ++ [d]) ++ [a])[m.length + 1]? = some a
        rw [← R1.len]; simp, rfl⟩
      have S1 := RS.mono gg S
      have S2 := Zhl (ρ := (ρ1.push d).push a) (w := none) (v := none) True.intro j (Zhl (w := some (.loc (m.length + 1))) (v := some (V.ref a)) ra i S1)
      have e3 : ((τ.set j (some (V.ref a))).set i (some (.ref a))).set j none = (τ.set i (some (.ref a))).set j none := by
        rw [List.set_comm _ _ (Ne.symm hij), List.set_set]
      rw [e3]
      exact S2
    · exact h.elim
  | bad =>
    rw [q] at h
    exact h.elim
theorem vs_tryXE {L : List Nat} {i j : Nat} {y z m : Str} {cv : Value} {e : EM} {pn2 p1 np pa pb pos' posT : Pos} (hK : X.K = G.K) (hm : ∀ k ∈ L, PySem.W.exmOne G.K (.ref (G.ct k)) cv = some true)
    (hex : X.ex = []) (hs : X.stack = X.env :: X.outer) (hf : X.env.frame = some X.env.locals) (hN : X.N.Nodup) (hc : Names X z cv)
    (he : ∀ (W : WX) (pn : List (Addr × Obj)) (xe : Value → Shared → Prop), Takes (X.tr pn xe) W → PE (X.tr pn xe) a (fun σ H Q => tE G fn (WE W σ) e σ H Q)) (hi : X.N[i]? = some y := by rfl) (hj : X.N[j]? = some m := by rfl) (hij : i ≠ j := by decide) (hln : X.env.kindOf m = some .local := by rfl) (hx : Loc X.env.scope y := by first | exact Or.inl rfl | exact Or.inr rfl)
    (hs1 : swapsWith a none p1.line X.env = pure false := by rfl) (hs2 : swapsWith (.Name m pn2) (some (.Name y pa)) pb.line X.env = pure false := by rfl)
    (hfn : X.fn y = true ∨ X.env.scope.names.lookup y = some .local := by first | exact .inl rfl | exact .inr rfl) (hv : Vis X.env.scope m := by first | exact Or.inl rfl | exact Or.inr rfl) (hd1 : (m == ("__debug__" : Str)) = false := by decide) (hd2 : (m == ("__classdict__" : Str)) = false := by decide) :
    PS X (.Try [.Expr a p1] [.ExceptHandler (some (.Name z np)) (some m) [.Assign [.Name y pa] (.Name m pn2) pb] pos'] [] [] posT) (tS G fn EX (s_tryX fn L i j e)) := by
  refine PS.imp (ps_tryKeep (i := i) (tb := fun W D σ H => tE G fn (WE W σ) e σ H fun _ H' => D.nx σ H') hex hs hf hN hj hln hc (fun W pn xe tk po => pss_one (ps_expr (he W pn xe tk) hs1)) fun a oe pn => pss_one (PS.imp (ps_set (X := X.suite a ((a, oe) :: pn)) hN hi hx (pe_var (X := X.suite a ((a, oe) :: pn)) hj hv hd1 hd2) hs2 hfn) fun D σ H h => h)) fun D τ H h => ?_
  rw [hK]
  exact i_tryX hij hm h
end
/-! ### over trees -/
noncomputable def xs_tryX (L : List Nat) (i j : Nat) (e : DE) : DSt := fun δ s => match e δ s with
  | .ok _ s1 => .ok (.nx δ) s1
  | .exc c t s1 => if c ∈ L then .ok (.nx ((δ.set i (some (.exn c t))).set j none)) s1 else .bad
  | .bad => .bad
theorem rs_tryX {lk : Option Nat} {L : List Nat} {i j : Nat} {e : EM} {de : DE} (he : RE lk e de) : RSt lk (s_tryX FN L i j e) (xs_tryX L i j de) := fun {c μ σ δ s} h sd => by
  have r := he h sd
  unfold s_tryX xs_tryX
  cases q : de δ s with
  | bad => exact True.intro
  | ok t s1 =>
    rw [q] at r
    obtain ⟨w, m, c', e2, x, o, d⟩ := r
    rw [e2]
    exact ⟨_, m, c', rfl, x, o, _, rfl, sd.mono x⟩
  | exc k t s1 =>
    rw [q] at r
    obtain ⟨w, m, c', e2, x, o, d⟩ := r
    rw [e2]
    dsimp only
    split
    · have n1 : Nx c' m c' (m ++ [.xdc (FN k) w, .exn k m.length]) := ⟨⟨[], by simp, fun _ h => nomatch h⟩, fun l u _ e => by rw [List.getElem?_append_left (Zdf e)]; exact e, by simp⟩
      have fr1 : ∀ l, m.length ≤ l → l ∉ c' := fun l hl hm => by
        have := o.low hm
        omega
      refine ⟨_, _, c', rfl, x.trans n1, ?_, _, rfl, ?_⟩
      · refine ⟨o.len, o.nd, fun k' l ob a b => ?_⟩
        obtain ⟨u, e3, du⟩ := o.ob k' l ob a b
        exact ⟨u, by rw [List.getElem?_append_left (Zdf e3)]; exact e3, du.mono n1⟩
      · refine Zhn (w := none) (t := none) True.intro j (Zhn (Zg8 ?_) i ((sd.mono x).mono n1))
        unfold Dt
        exact ⟨m.length + 1, m.length, FN k, w, rfl, fr1 _ (by omega), fr1 _ (Nat.le_refl _), by rw [List.getElem?_append_right (by omega)]; simp, by rw [List.getElem?_append_right (Nat.le_refl _)]; simp, d.mono n1⟩
    · exact True.intro
noncomputable def Zht (n : Nat) (f : DFn) (a : DA) : DE := fun δ s => (a δ s).bind fun ts s1 => popX s1.length ((f (.cell s1.length :: ts) (s1 ++ [.ins n []])).bind fun r s2 => match r with
  | .non => .ok (.cell s1.length) s2
  | _ => .bad)
theorem r_makeX {n : Nat} {f : Fn} {d : DFn} {a : AM} {da : DA} (hf : RF f d) (ha : RA none a da) : RE none (e_make n f a) (Zht n d da) := fun h sd => (ha h sd).bind fun ts s1 ws μ1 c1 n1 h1 d1 => by
  refine rr_popX h1 ?_
  obtain ⟨w, m, c2, e2, x2, h2, d2⟩ := Zko h1 (o := .ins n []) (u := .ins n []) ⟨[], rfl, by unfold DtF; rfl⟩
  cases e2
  refine Zir x2 ((hf rfl h2 (Zdj d2 (d1.mono x2))).bind fun r s3 v μ3 c3 n3 h3 d3 => ?_)
  cases r with
  | non =>
    obtain rfl := Zi0 d3
    exact Zdr h3 (d2.mono n3)
  | _ => exact True.intro
/-! ### for .. in enumerate(a cell whose items are numbers, texts, truth values), looked at anew at each turn -/
section
variable {lk : Option Nat}
end
end Vs
/-! repr of what is no list and no tuple: None, a truth value, a number, a text, the empty dict. -/
namespace Vs
open PySem PySem.Spec PyProof.Rows L2
noncomputable def reprAt : W → Option Str
  | .non => some (Str.ofString "None")
  | .bl b => some (if b = true then Str.ofString "True" else Str.ofString "False")
  | .int i => if i.natAbs.log2 < 1920 then some (Str.ofString (toString i)) else none
  | .str x => if (reprText x).length ≤ sizeLine then some (reprText x) else none
  | .loc _ => none
noncomputable def rRepr0 : List V → Hp → VK → Prop := fun xs H Q => (xs = [V.non] ∧ Q (.str (Str.ofString "None")) H) ∨ (∃ b, xs = [V.bl b] ∧ Q (.str (if b = true then Str.ofString "True" else Str.ofString "False")) H)
  ∨ (∃ i, xs = [V.int i] ∧ i.natAbs.log2 < 1920 ∧ Q (.str (Str.ofString (toString i))) H) ∨ (∃ x, xs = [V.str x] ∧ (reprText x).length ≤ sizeLine ∧ Q (.str (reprText x)) H)
  ∨ ∃ a, xs = [V.ref a] ∧ H a = some (.dK []) ∧ Q (.str ((PyData.dict []).shown)) H
section
variable {X : Cx}
theorem call_repr0 (hg : X.A.guards = some []) (hu : X.A.units + 66 < cLine) : CallR X (.builtin "repr") rRepr0 := by
  intro pins s σ H xs us Q I r h
  rcases h with ⟨rfl, q⟩ | ⟨b, rfl, q⟩ | ⟨i, rfl, hi, q⟩ | ⟨x, rfl, hx, q⟩ | ⟨a, rfl, ha, q⟩
  · obtain ⟨u, rfl, ru⟩ := r.one
    cases (show u = Value.none from ru)
    exact P.repr_of_none ⟨.str _, H, I.kept (h' := s.heap) fun _ _ e => e, ⟨_, rfl⟩, q⟩
  · obtain ⟨u, rfl, ru⟩ := r.one
    cases (show u = Value.bool b from ru)
    exact P.repr_of_bool ⟨.str _, H, I.kept (h' := s.heap) fun _ _ e => e, ⟨_, rfl⟩, q⟩
  · obtain ⟨u, rfl, ru⟩ := r.one
    obtain ⟨t, rfl⟩ := (show ∃ t, u = Value.int i t from ru)
    exact P.repr_of_int hi ⟨.str _, H, I.kept (h' := s.heap) fun _ _ e => e, ⟨_, rfl⟩, q⟩
  · obtain ⟨u, rfl, ru⟩ := r.one
    obtain ⟨t, rfl⟩ := (show ∃ t, u = Value.str x t from ru)
    exact P.repr_of_str ⟨.str _, H, I.kept (h' := s.heap) fun _ _ e => e, ⟨_, rfl⟩, q⟩ hx
  · obtain ⟨u, rfl, ru⟩ := r.one
    cases (show u = Value.ref a from ru)
    have ok := I.hok a _ ha
    unfold ObjOk at ok
    obtain ⟨_, sm, vs, kv, o, es, n, h1, h2, h3, _, h5, _⟩ := ok
    cases kv
    have e0 : es.toList = [] := by
      generalize es.toList = l at h5
      cases h5
      rfl
    have h3 : o.data = Data.dict es n := h3
    have rd : Reads s.heap (Value.ref a) (PyData.dict []) (a :: [] ++ []) := Reads.dict h1 h2.1 h3 (by rw [e0]; exact .nil) (by rw [e0]; exact .nil)
    refine repr_of_reads' rd rfl (fun _ m => ?_) hg (by show _ + (_ + 1) < _; have : (PyData.dict []).depth ≤ 60 := by decide +kernel
                                                        omega) (fun _ _ e => e) (fun h' u tk hk => ⟨.str _, H, I.kept hk, ⟨u, rfl⟩, q⟩) (by decide +kernel)
    rw [List.append_nil, List.mem_singleton] at m
    rw [← m] at sm
    simp at sm
end
section
variable {X : Cx} {G : Gt} {fn : Nat → Str} {EX : XK} {a : Expr} {fa : EM} {pos : Pos}
end
/-! over trees -/
noncomputable def reprTx : T → Option Str
  | .non => some (Str.ofString "None")
  | .bl b => some (if b = true then Str.ofString "True" else Str.ofString "False")
  | .int i => if i.natAbs.log2 < 1920 then some (Str.ofString (toString i)) else none
  | .str x => if (reprText x).length ≤ sizeLine then some (reprText x) else none
  | .dic [] => some ((PyData.dict []).shown)
  | _ => none
end Vs
/-! repr of data with dicts in it. -/
namespace Vs
open PySem PySem.Spec PyProof.Rows L2
noncomputable def Zh8 : Key → PyData
  | .inl i => .int i
  | .inr x => .str x
mutual
inductive Dq (K : PySem.W.Frag) (H : Hp) : V → PyData → Prop
  | non : Dq K H .non .none
  | bl (b : Bool) : Dq K H (.bl b) (.bool b)
  | int (i : Int) : Dq K H (.int i) (.int i)
  | str (x : Str) : Dq K H (.str x) (.str x)
  | lst {a : Addr} {xs : List V} {ds : List PyData} : SqL K H a xs → DqAll K H xs ds → Dq K H (.ref a) (.list ds)
  | tup {a : Addr} {xs : List V} {ds : List PyData} : SqT K H a xs → DqAll K H xs ds → Dq K H (.ref a) (.tuple ds)
  | dic {a : Addr} {kvs : List (Key × V)} {ds : List (PyData × PyData)} : H a = some (.dK kvs) → DqKv K H kvs ds → Dq K H (.ref a) (.dict ds)
inductive DqAll (K : PySem.W.Frag) (H : Hp) : List V → List PyData → Prop
  | nil : DqAll K H [] []
  | cons {v : V} {vs : List V} {d : PyData} {ds : List PyData} : Dq K H v d → DqAll K H vs ds → DqAll K H (v :: vs) (d :: ds)
inductive DqKv (K : PySem.W.Frag) (H : Hp) : List (Key × V) → List (PyData × PyData) → Prop
  | nil : DqKv K H [] []
  | cons {k : Key} {v : V} {vs : List (Key × V)} {d : PyData} {ds : List (PyData × PyData)} : Dq K H v d → DqKv K H vs ds → DqKv K H ((k, v) :: vs) ((Zh8 k, d) :: ds)
end
/-- data at a value, and how it is shown -/
noncomputable def Sh (P : Program) (w : World) (h : Heap) (u : Value) (d : PyData) : Prop := (∃ as, Reads h u d as) ∧ ∃ bs, ReadAtMost h d.depth bs ∧ ReprK P w bs h d.depth u d.shown
noncomputable def ShAll (P : Program) (w : World) (h : Heap) (us : List Value) (ds : List PyData) : Prop := (∃ as, ReadsAll h us ds as) ∧ ∃ bs, ReadAtMost h (PyData.depthAll ds) bs ∧ ReprAllK P w bs h (PyData.depthAll ds) us (PyData.shownAll ds)
theorem ShAll.nil {P : Program} {w : World} {h : Heap} : ShAll P w h [] [] := ⟨⟨_, .nil⟩, [], (fun _ h => nomatch h), by simp only [PyData.shownAll]; exact .nil⟩
theorem ShAll.cons {P : Program} {w : World} {h : Heap} {u : Value} {us : List Value} {d : PyData} {ds : List PyData} (x : Sh P w h u d) (y : ShAll P w h us ds) : ShAll P w h (u :: us) (d :: ds) := by
  obtain ⟨⟨as1, r1⟩, b1, hb1, k1⟩ := x
  obtain ⟨⟨as2, r2⟩, b2, hb2, k2⟩ := y
  refine ⟨⟨_, .cons r1 r2⟩, b1 ++ b2, ?_, ?_⟩
  · intro b hm
    simp only [PyData.depthAll]
    rcases List.mem_append.mp hm with hm | hm
    · obtain ⟨d', as', r', hd'⟩ := hb1 b hm
      exact ⟨d', as', r', Nat.le_trans hd' (Nat.le_max_left _ _)⟩
    · obtain ⟨d', as', r', hd'⟩ := hb2 b hm
      exact ⟨d', as', r', Nat.le_trans hd' (Nat.le_max_right _ _)⟩
  · simp only [PyData.depthAll, PyData.shownAll]
    exact .cons ((k1.more fun b hb => List.mem_append_left _ hb).level_le (Nat.le_max_left _ _)) (k2.more_le (fun b hb => List.mem_append_right _ hb) (Nat.le_max_right _ _))
section
variable {P : Program} {w : World} {h : Heap} {a : Addr} {o : Obj} {n : Nat} {us : List Value} {ds : List PyData}
theorem Sh.list (h1 : h.get? a = some o) (h2 : o.cls = .type "list") (h3 : o.data = .seq us.toArray n) (y : ShAll P w h us ds) : Sh P w h (.ref a) (.list ds) := by
  obtain ⟨⟨as, r4⟩, bs, hb, hk⟩ := y
  have r : Reads h (.ref a) (.list ds) _ := .list h1 h2 h3 r4
  have hna : a ∉ bs := not_mem_of_deeper r (by simp only [PyData.depth]; omega) hb
  refine ⟨⟨_, r⟩, a :: bs, ReadAtMost.cons r (by simp only [PyData.depth]; omega) hb, ?_⟩
  simp only [PyData.depth, PyData.shown]
  cases us with
  | nil =>
    cases r4
    simp only [PyData.shownAll, listText_nil]
    exact ReprK.listEmpty h1 h2 h3
  | cons x l => exact ReprK.list h1 h2 h3 hna (by simpa using hk.length_eq) (fun i y e => hk.item i y (by simpa using e))
theorem Sh.tuple (h1 : h.get? a = some o) (h2 : o.cls = .type "tuple") (h3 : ∃ n, o.data = .seq us.toArray n) (y : ShAll P w h us ds) : Sh P w h (.ref a) (.tuple ds) := by
  obtain ⟨⟨as, r4⟩, bs, hb, hk⟩ := y
  obtain ⟨n, h3⟩ := h3
  have r : Reads h (.ref a) (.tuple ds) _ := .tuple h1 h2 h3 r4
  have hna : a ∉ bs := not_mem_of_deeper r (by simp only [PyData.depth]; omega) hb
  refine ⟨⟨_, r⟩, a :: bs, ReadAtMost.cons r (by simp only [PyData.depth]; omega) hb, ?_⟩
  simp only [PyData.depth, PyData.shown]
  exact ReprK.tuple h1 h2 h3 hna hk
theorem Sh.dict {es : Array DictEntry} {kvs : List (PyData × PyData)} (h1 : h.get? a = some o) (h2 : o.cls = .type "dict") (h3 : o.data = .dict es n) (sm : (a == sysModules) = false)
    (y1 : ShAll P w h (es.toList.map (·.key)) (kvs.map (·.1))) (y2 : ShAll P w h (es.toList.map (·.val)) (kvs.map (·.2))) : Sh P w h (.ref a) (.dict kvs) := by
  obtain ⟨⟨as1, r1⟩, b1, hb1, k1⟩ := y1
  obtain ⟨⟨as2, r2⟩, b2, hb2, k2⟩ := y2
  have r : Reads h (.ref a) (.dict kvs) _ := .dict h1 h2 h3 r1 r2
  have hb : ReadAtMost h (PyData.depthKv kvs) (b1 ++ b2) := (hb1.mono (PyData.depthAll_keys_le kvs)).append (hb2.mono (PyData.depthAll_vals_le kvs))
  have hna : a ∉ b1 ++ b2 := not_mem_of_deeper r (by simp only [PyData.depth]; omega) hb
  refine ⟨⟨_, r⟩, a :: (b1 ++ b2), ReadAtMost.cons r (by simp only [PyData.depth]; omega) hb, ?_⟩
  simp only [PyData.depth, PyData.shown, PyData.shownKv_eq]
  exact ReprK.dict h1 h2 h3 sm hna (ReprEntriesK.of_two es.toList _ _
    (k1.more_le (fun b hb => List.mem_append_left _ hb) (PyData.depthAll_keys_le kvs)) (k2.more_le (fun b hb => List.mem_append_right _ hb) (PyData.depthAll_vals_le kvs)))
end
theorem sh_none {P : Program} {w : World} {h : Heap} : Sh P w h .none .none := ⟨⟨_, .none⟩, [], (fun _ h => nomatch h), by simp only [PyData.shown]; exact .of_is ReprIs.none _ _ _⟩
theorem sh_bool {P : Program} {w : World} {h : Heap} (b : Bool) : Sh P w h (.bool b) (.bool b) := ⟨⟨_, .bool b⟩, [], (fun _ h => nomatch h), by simp only [PyData.shown]; exact .of_is (ReprIs.bool b) _ _ _⟩
theorem sh_int {P : Program} {w : World} {h : Heap} {i : Int} {t : Tok} (hs : (PyData.int i).showable = true) : Sh P w h (.int i t) (.int i) := ⟨⟨_, .int i t⟩, [], (fun _ h => nomatch h), by simp only [PyData.shown]; exact .of_is (ReprIs.int t (by simpa [PyData.showable] using hs)) _ _ _⟩
theorem sh_str {P : Program} {w : World} {h : Heap} {x : Str} {t : Tok} (hz : (PyData.str x).shown.length ≤ sizeLine) : Sh P w h (.str x t) (.str x) := ⟨⟨_, .str x t⟩, [], (fun _ h => nomatch h), by simp only [PyData.shown]; exact .of_is (ReprIs.str x t (by simpa only [PyData.shown] using hz)) _ _ _⟩
theorem sh_of : ∀ {ds : List PyData}, PyData.showableAll ds = true → ∀ d ∈ ds, d.showable = true
  | [], _, _, h => nomatch h
  | d :: ds, hs, e, h => by
    have hs' : d.showable = true ∧ PyData.showableAll ds = true := by simpa [PyData.showableAll] using hs
    rcases List.mem_cons.mp h with rfl | h
    · exact hs'.1
    · exact sh_of hs'.2 e h
theorem shown_of : ∀ {ds : List PyData} {d : PyData}, d ∈ ds → d.shown ∈ PyData.shownAll ds
  | [], _, h => nomatch h
  | e :: ds, d, h => by
    simp only [PyData.shownAll]
    rcases List.mem_cons.mp h with rfl | h
    · exact List.mem_cons_self
    · exact List.mem_cons_of_mem _ (shown_of h)
section
variable {X : Cx} {pins : List (Addr × Obj)} {σ : L2.St} {H : Hp} {s : Shared}
theorem sh_pairs {P : Program} {w : World} {h : Heap} {knd : PySem.KeyKind P w Key} (hk : ∀ k v, knd.is k v = keyIs k v) : ∀ {es : List DictEntry} {ks : List (Key × Value)}, Pairs knd es ks → (∀ p ∈ ks, (Zh8 p.1).showable = true ∧ (Zh8 p.1).shown.length ≤ sizeLine) → ShAll P w h (es.map (·.key)) (ks.map fun p => Zh8 p.1)
  | _, _, .nil, _ => ShAll.nil
  | _, _, .cons (kv := kv) e1 e2 r, z => by
    refine ShAll.cons ?_ (sh_pairs hk r fun p hp => z p (List.mem_cons_of_mem _ hp))
    have z0 := z kv List.mem_cons_self
    rw [hk] at e1
    obtain ⟨k, v⟩ := kv
    rcases keyIs_shape e1 with ⟨i, t, rfl, e⟩ | ⟨y, t, rfl, e⟩
    · dsimp only; rw [e]; exact sh_int z0.1
    · dsimp only; rw [e]; exact sh_str z0.2
theorem Zkw {P : Program} {w : World} {knd : PySem.KeyKind P w Key} : ∀ {es : List DictEntry} {ks : List (Key × Value)}, Pairs knd es ks → es.map (·.val) = ks.map (·.2)
  | _, _, .nil => rfl
  | _, _, .cons e1 e2 r => by rw [List.map_cons, List.map_cons, e2, Zkw r]
mutual
theorem Dq.sh (I : Inv X pins σ H s) : ∀ (d : PyData) (v : V) (u : Value), Dq X.K H v d → RelV v u → d.showable = true → d.shown.length ≤ sizeLine → Sh X.prog X.w s.heap u d
  | .none, _, _, h, r, _, _ => by
    cases h
    cases r
    exact sh_none
  | .bool b, _, _, h, r, _, _ => by
    cases h
    cases r
    exact sh_bool b
  | .int i, _, _, h, r, hs, _ => by
    cases h
    obtain ⟨t, rfl⟩ := r
    exact sh_int hs
  | .str x, _, _, h, r, _, hz => by
    cases h
    obtain ⟨t, rfl⟩ := r
    exact sh_str hz
  | .list ds, _, _, h, r, hs, hz => by
    cases h with
    | lst h1 ha =>
      cases r
      obtain ⟨its, rv, ⟨o, n, ho, hc, _, hd⟩, _⟩ := I.list h1
      exact Sh.list ho hc hd (Dq.shAll I ds _ its ha rv (by simpa [PyData.showable] using hs) fun t ht => Nat.le_trans (listText_mem_le ht) (by simpa only [PyData.shown] using hz))
  | .tuple ds, _, _, h, r, hs, hz => by
    cases h with
    | tup h1 ha =>
      cases r
      obtain ⟨its, rv, ⟨o, ho, hc, n, hd⟩, _⟩ := I.tuple h1
      exact Sh.tuple ho hc ⟨n, hd⟩ (Dq.shAll I ds _ its ha rv (by simpa [PyData.showable] using hs) fun t ht => Nat.le_trans (tupleText_mem_le ht) (by simpa only [PyData.shown] using hz))
  | .dict kvs, _, _, h, r, hs, hz => by
    cases h with
    | dic h1 ha =>
      cases r
      rename_i a ks
      have ok := I.hok a _ h1
      unfold ObjOk at ok
      obtain ⟨_, sm, vs, kv, o, es, n, g1, g2, g3, _, g5, _⟩ := ok
      have hz' : (dictText (PyData.shownKv kvs)).length ≤ sizeLine := by simpa only [PyData.shown] using hz
      obtain ⟨hs1, hs2⟩ := PyData.showableKv_split kvs (by simpa [PyData.showable] using hs)
      obtain ⟨e1, e2⟩ := Dq.shKv I kvs ks vs ha kv (by simpa [PyData.showable] using hs) (fun t ht => let ⟨p, hp, hl⟩ := PyData.shownKv_val_le kvs t ht; Nat.le_trans hl (Nat.le_trans (dictText_mem_le hp) hz'))
      have y2 : ShAll X.prog X.w s.heap (es.toList.map (·.val)) (kvs.map (·.2)) := by rw [Zkw g5]; exact e2
      have y1 : ShAll X.prog X.w s.heap (es.toList.map (·.key)) (kvs.map (·.1)) := by
        rw [e1]
        refine sh_pairs (fun _ _ => rfl) g5 fun p hp => ?_
        have hm : Zh8 p.1 ∈ kvs.map (·.1) := by rw [e1]; exact List.mem_map_of_mem hp
        refine ⟨sh_of hs1 _ hm, ?_⟩
        obtain ⟨q, hq, hl⟩ := PyData.shownKv_key_le kvs _ (shown_of hm)
        exact Nat.le_trans hl (Nat.le_trans (dictText_mem_le hq) hz')
      exact Sh.dict g1 g2.1 g3 sm y1 y2
theorem Dq.shAll (I : Inv X pins σ H s) : ∀ (ds : List PyData) (vs : List V) (us : List Value), DqAll X.K H vs ds → Vals vs us → PyData.showableAll ds = true → (∀ t ∈ PyData.shownAll ds, t.length ≤ sizeLine) → ShAll X.prog X.w s.heap us ds
  | [], _, _, h, r, _, _ => by
    cases h
    cases r
    exact ShAll.nil
  | d :: ds, _, _, h, r, hs, hz => by
    cases h with
    | cons h1 h2 =>
      cases r with
      | cons r1 r2 =>
        have hs' : d.showable = true ∧ PyData.showableAll ds = true := by simpa [PyData.showableAll] using hs
        exact ShAll.cons (Dq.sh I d _ _ h1 r1 hs'.1 (hz _ (by simp only [PyData.shownAll]; exact List.mem_cons_self ..))) (Dq.shAll I ds _ _ h2 r2 hs'.2 fun t ht => hz t (by simp only [PyData.shownAll]; exact List.mem_cons_of_mem _ ht))
theorem Dq.shKv (I : Inv X pins σ H s) : ∀ (ds : List (PyData × PyData)) (vs : List (Key × V)) (us : List (Key × Value)), DqKv X.K H vs ds → KV vs us → PyData.showableKv ds = true → (∀ t ∈ PyData.shownAll (ds.map (·.2)), t.length ≤ sizeLine) → ds.map (·.1) = us.map (fun p => Zh8 p.1) ∧ ShAll X.prog X.w s.heap (us.map (·.2)) (ds.map (·.2))
  | [], _, _, h, r, _, _ => by
    cases h
    cases r
    exact ⟨rfl, ShAll.nil⟩
  | (k, d) :: ds, _, _, h, r, hs, hz => by
    have hs' : (k.showable = true ∧ d.showable = true) ∧ PyData.showableKv ds = true := by simpa [PyData.showableKv] using hs
    cases h with
    | cons h1 h2 =>
      cases r with
      | cons r1 r2 =>
        have q1 := Dq.sh I d _ _ h1 r1.2 hs'.1.2 (hz _ (by simp only [List.map_cons, PyData.shownAll]; exact List.mem_cons_self ..))
        obtain ⟨q2, q3⟩ := Dq.shKv I ds _ _ h2 r2 hs'.2 fun t ht => hz t (by simp only [List.map_cons, PyData.shownAll]; exact List.mem_cons_of_mem _ ht)
        refine ⟨?_, ShAll.cons q1 q3⟩
        rw [List.map_cons, List.map_cons, q2]
        show _ :: _ = _ :: _
        rw [← r1.1]
end
end
section
variable {X : Cx} {pins : List (Addr × Obj)} {σ : L2.St} {H : Hp} {s : Shared}
theorem Dq.dictAt (I : Inv X pins σ H s) {a : Addr} {ks : List (Key × V)} {kvs : List (PyData × PyData)} (h1 : H a = some (.dK ks)) (ha : DqKv X.K H ks kvs) (hs : (PyData.dict kvs).showable = true) (hz : (PyData.dict kvs).shown.length ≤ sizeLine) :
    ∃ (o : Obj) (es : Array DictEntry) (n : Nat), s.heap.get? a = some o ∧ o.cls = .type "dict" ∧ o.data = .dict es n ∧ (a == sysModules) = false ∧ ShAll X.prog X.w s.heap (es.toList.map (·.key)) (kvs.map (·.1)) ∧ ShAll X.prog X.w s.heap (es.toList.map (·.val)) (kvs.map (·.2)) := by
  have ok := I.hok a _ h1
  unfold ObjOk at ok
  obtain ⟨_, sm, vs, kv, o, es, n, g1, g2, g3, _, g5, _⟩ := ok
  have hz' : (dictText (PyData.shownKv kvs)).length ≤ sizeLine := by simpa only [PyData.shown] using hz
  obtain ⟨hs1, hs2⟩ := PyData.showableKv_split kvs (by simpa [PyData.showable] using hs)
  obtain ⟨e1, e2⟩ := Dq.shKv I kvs ks vs ha kv (by simpa [PyData.showable] using hs) (fun t ht => let ⟨p, hp, hl⟩ := PyData.shownKv_val_le kvs t ht; Nat.le_trans hl (Nat.le_trans (dictText_mem_le hp) hz'))
  refine ⟨o, es, n, g1, g2.1, g3, sm, ?_, by rw [Zkw g5]; exact e2⟩
  rw [e1]
  refine sh_pairs (fun _ _ => rfl) g5 fun p hp => ?_
  have hm : Zh8 p.1 ∈ kvs.map (·.1) := by rw [e1]; exact List.mem_map_of_mem hp
  refine ⟨sh_of hs1 _ hm, ?_⟩
  obtain ⟨q, hq, hl⟩ := PyData.shownKv_key_le kvs _ (shown_of hm)
  exact Nat.le_trans hl (Nat.le_trans (dictText_mem_le hq) hz')
end
/-! the call -/
section
variable {P : Program} {w : World} {A : Around} {E : Value → Shared → Prop} {s : Shared} {Q : Value → Shared → Prop} {a : Addr} {o : Obj} {n : Nat} {us : List Value} {ds : List PyData} {d : PyData}
theorem call_shL (h1 : s.heap.get? a = some o) (h2 : o.cls = .type "list") (h3 : o.data = .seq us.toArray n) (y : ShAll P w s.heap us ds) (hg : A.guards = some []) (hu : A.units + ((PyData.list ds).depth + 1) < cLine)
    (hQ : ∀ h' u tk, (∀ b o, s.heap.get? b = some o → h'.get? b = some o) → Q (.str (PyData.list ds).shown u) { s with heap := h', toks := tk }) (hsz : (PyData.list ds).shown.length ≤ sizeLine) : wpAny (model P w) A (call (.builtin "repr") [.ref a]) Q E s := by
  obtain ⟨⟨as, r4⟩, bs, hb, hk⟩ := y
  have hz' : (listText (PyData.shownAll ds)).length ≤ sizeLine := by simpa only [PyData.shown] using hsz
  have hna : a ∉ bs := not_mem_of_deeper (.list h1 h2 h3 r4) (by simp only [PyData.depth]; omega) hb
  simp only [PyData.depth] at hu
  simp only [PyData.shown] at hQ
  refine call_repr_slot (by omega) ⟨o, h1, h2⟩ F.slot_list_repr.toG ?_
  cases us with
  | nil =>
    cases r4
    simp only [PyData.shownAll, listText_nil] at hQ
    exact call_list_repr_empty ⟨o, h1, h2⟩ h1 h3 ⟨_, _, rfl, hQ s.heap _ _ fun _ _ e => e⟩
  | cons x l =>
    exact call_list_reprK h1 h2 h3 hna (by simpa using hk.length_eq) (fun i y e => hk.item i y (by simpa using e)) hg (fun b _ => Clear.nil b) (by show A.units + 1 + _ < cLine; omega) (fun _ _ e => e) (fun h' u tk hk => ⟨_, _, rfl, hQ h' u tk hk⟩) hz'
theorem call_shT (h1 : s.heap.get? a = some o) (h2 : o.cls = .type "tuple") (h3 : o.data = .seq us.toArray n) (y : ShAll P w s.heap us ds) (hg : A.guards = some []) (hu : A.units + ((PyData.tuple ds).depth + 1) < cLine)
    (hQ : ∀ h' u tk, (∀ b o, s.heap.get? b = some o → h'.get? b = some o) → Q (.str (PyData.tuple ds).shown u) { s with heap := h', toks := tk }) (hsz : (PyData.tuple ds).shown.length ≤ sizeLine) : wpAny (model P w) A (call (.builtin "repr") [.ref a]) Q E s := by
  obtain ⟨⟨as, r4⟩, bs, hb, hk⟩ := y
  have hz' : (tupleText (PyData.shownAll ds)).length ≤ sizeLine := by simpa only [PyData.shown] using hsz
  have hna : a ∉ bs := not_mem_of_deeper (.tuple h1 h2 h3 r4) (by simp only [PyData.depth]; omega) hb
  simp only [PyData.depth] at hu
  simp only [PyData.shown] at hQ
  refine call_repr_slot (by omega) ⟨o, h1, h2⟩ F.slot_tuple_repr ?_
  exact call_tuple_reprK h1 h2 h3 hna hk hg (fun b _ => Clear.nil b) (by show A.units + 1 + _ < cLine; omega) (fun _ _ e => e) (fun h' u tk hk => ⟨_, _, rfl, hQ h' u tk hk⟩) hz'
theorem call_shD {es : Array DictEntry} {kvs : List (PyData × PyData)} (h1 : s.heap.get? a = some o) (h2 : o.cls = .type "dict") (h3 : o.data = .dict es n) (sm : (a == sysModules) = false)
    (y1 : ShAll P w s.heap (es.toList.map (·.key)) (kvs.map (·.1))) (y2 : ShAll P w s.heap (es.toList.map (·.val)) (kvs.map (·.2))) (hg : A.guards = some []) (hu : A.units + ((PyData.dict kvs).depth + 1) < cLine)
    (hQ : ∀ h' u tk, (∀ b o, s.heap.get? b = some o → h'.get? b = some o) → Q (.str (PyData.dict kvs).shown u) { s with heap := h', toks := tk }) (hsz : (PyData.dict kvs).shown.length ≤ sizeLine) : wpAny (model P w) A (call (.builtin "repr") [.ref a]) Q E s := by
  obtain ⟨⟨as1, r1⟩, b1, hb1, k1⟩ := y1
  obtain ⟨⟨as2, r2⟩, b2, hb2, k2⟩ := y2
  have hz' : (dictText (PyData.shownKv kvs)).length ≤ sizeLine := by simpa only [PyData.shown] using hsz
  have hb : ReadAtMost s.heap (PyData.depthKv kvs) (b1 ++ b2) := (hb1.mono (PyData.depthAll_keys_le kvs)).append (hb2.mono (PyData.depthAll_vals_le kvs))
  have hna : a ∉ b1 ++ b2 := not_mem_of_deeper (.dict h1 h2 h3 r1 r2) (by simp only [PyData.depth]; omega) hb
  simp only [PyData.depth] at hu
  simp only [PyData.shown, PyData.shownKv_eq] at hQ
  refine call_repr_slot (by omega) ⟨o, h1, h2⟩ F.slot_dict_repr ?_
  exact call_dict_reprK h1 h2 h3 sm hna (ReprEntriesK.of_two es.toList _ _
    (k1.more_le (fun b hb => List.mem_append_left _ hb) (PyData.depthAll_keys_le kvs)) (k2.more_le (fun b hb => List.mem_append_right _ hb) (PyData.depthAll_vals_le kvs))) hg (fun b _ => Clear.nil b) (by show A.units + 1 + _ < cLine; omega) (fun _ _ e => e) (fun h' u tk hk => ⟨_, _, rfl, hQ h' u tk hk⟩) (by rw [← PyData.shownKv_eq]; exact hz')
end
noncomputable def rReprQ (K : PySem.W.Frag) : List V → Hp → VK → Prop := fun xs H Q => ∃ a d, xs = [V.ref a] ∧ Dq K H (.ref a) d ∧ d.depth ≤ 60 ∧ reprOk d = true ∧ Q (.str d.shown) H
theorem call_reprQ {X : Cx} (hg : X.A.guards = some []) (hu : X.A.units + 66 < cLine) : CallR X (.builtin "repr") (rReprQ X.K) := by
  intro pins s σ H xs us Q I r h
  obtain ⟨a, d, rfl, hd, dp, ok, q⟩ := h
  obtain ⟨u, rfl, ru⟩ := r.one
  cases (show u = Value.ref a from ru)
  unfold reprOk at ok
  obtain ⟨hs, sz⟩ := Bool.and_eq_true_iff.mp ok
  have sz := of_decide_eq_true sz
  cases hd with
  | lst h1 ha =>
    obtain ⟨its, rv, ⟨o, n, ho, hc, _, hd⟩, _⟩ := I.list h1
    exact call_shL ho hc hd (Dq.shAll I _ _ its ha rv (by simpa [PyData.showable] using hs) fun t ht => Nat.le_trans (listText_mem_le ht) (by simpa only [PyData.shown] using sz)) hg (by omega) (fun h' u tk hk => ⟨.str _, H, I.kept hk, ⟨u, rfl⟩, q⟩) sz
  | tup h1 ha =>
    obtain ⟨its, rv, ⟨o, ho, hc, n, hd⟩, _⟩ := I.tuple h1
    exact call_shT ho hc hd (Dq.shAll I _ _ its ha rv (by simpa [PyData.showable] using hs) fun t ht => Nat.le_trans (tupleText_mem_le ht) (by simpa only [PyData.shown] using sz)) hg (by omega) (fun h' u tk hk => ⟨.str _, H, I.kept hk, ⟨u, rfl⟩, q⟩) sz
  | dic h1 ha =>
    obtain ⟨o, es, n, g1, g2, g3, sm, y1, y2⟩ := Dq.dictAt I h1 ha hs sz
    exact call_shD g1 g2 g3 sm y1 y2 hg (by omega) (fun h' u tk hk => ⟨.str _, H, I.kept hk, ⟨u, rfl⟩, q⟩) sz
end Vs
/-! repr of data with dicts in it: over the memory, over trees. -/
namespace Vs
open PySem PySem.Spec PyProof.Rows L2
noncomputable def travW (g : W → Option PyData) : List W → Option (List PyData)
  | [] => some []
  | x :: xs => (g x).bind fun d => (travW g xs).map fun ds => d :: ds
noncomputable def Zla (g : W → Option PyData) : List (Key × W) → Option (List (PyData × PyData))
  | [] => some []
  | p :: xs => (g p.2).bind fun d => (Zla g xs).map fun ds => (Zh8 p.1, d) :: ds
noncomputable def flatD : W → Option PyData
  | .non => some .none
  | .bl b => some (.bool b)
  | .int i => some (.int i)
  | .str x => some (.str x)
  | .loc _ => none
noncomputable def Zkr (μ : Mem) : Nat → W → Option PyData
  | 0, w => flatD w
  | n + 1, w => match w with
    | .loc l => match μ[l]? with
      | some (.lst xs) => (travW (Zkr μ n) xs).map .list
      | some (.tup xs) => (travW (Zkr μ n) xs).map .tuple
      | some (.scr ns) => some (.list (ns.map .int))
      | some (.dic kvs) => (Zla (Zkr μ n) kvs).map .dict
      | _ => none
    | w => flatD w
theorem dq_ints {K : PySem.W.Frag} {H : Hp} : ∀ ns : List Int, DqAll K H (ns.map V.int) (ns.map PyData.int)
  | [] => .nil
  | n :: ns => .cons (.int n) (dq_ints ns)
theorem travW_at {K : PySem.W.Frag} {H : Hp} {ρ : Rho} {g : W → Option PyData} (one : ∀ w v d, RV ρ w v → g w = some d → Dq K H v d) : ∀ {ws : List W} {vs : List V} {ds : List PyData}, RVs ρ ws vs → travW g ws = some ds → DqAll K H vs ds
  | _, _, ds, .nil, e => by
    unfold travW at e
    cases e
    exact .nil
  | _, _, ds, .cons a b, e => by
    unfold travW at e
    obtain ⟨d, e1, e2⟩ := Option.bind_eq_some_iff.mp e
    obtain ⟨ds', e3, e4⟩ := Option.map_eq_some_iff.mp e2
    subst e4
    exact .cons (one _ _ _ a e1) (travW_at one b e3)
theorem travKW_at {K : PySem.W.Frag} {H : Hp} {ρ : Rho} {g : W → Option PyData} (one : ∀ w v d, RV ρ w v → g w = some d → Dq K H v d) : ∀ {ws : List (Key × W)} {vs : List (Key × V)} {ds : List (PyData × PyData)}, RK ρ ws vs → Zla g ws = some ds → DqKv K H vs ds
  | _, _, ds, .nil, e => by
    unfold Zla at e
    cases e
    exact .nil
  | p :: _, q :: _, ds, .cons a b, e => by
    unfold Zla at e
    obtain ⟨d, e1, e2⟩ := Option.bind_eq_some_iff.mp e
    obtain ⟨ds', e3, e4⟩ := Option.map_eq_some_iff.mp e2
    subst e4
    obtain ⟨k, w⟩ := p
    obtain ⟨k', v⟩ := q
    obtain ⟨a1, a2⟩ := a
    have a1 : k = k' := a1
    subst a1
    exact .cons (one _ _ _ a2 e1) (travKW_at one b e3)
theorem Zjv {K : PySem.W.Frag} {H : Hp} {ρ : Rho} {w : W} {v : V} {d : PyData} (r : RV ρ w v) (e : flatD w = some d) : Dq K H v d := by
  cases w with
  | non => rw [show v = .non from r]; cases e; exact .non
  | bl b => rw [show v = .bl b from r]; cases e; exact .bl b
  | int b => rw [show v = .int b from r]; cases e; exact .int b
  | str b => rw [show v = .str b from r]; cases e; exact .str b
  | loc l => cases e
theorem Zl8 {G : Gt} {ρ : Rho} {μ : Mem} {H : Hp} (R : Rel G ρ μ H) : ∀ (n : Nat) (w : W) (v : V) (d : PyData), RV ρ w v → Zkr μ n w = some d → Dq G.K H v d
  | 0, w, v, d, r, e => Zjv r e
  | n + 1, w, v, d, r, e => by
    cases w with
    | loc l =>
      obtain ⟨a, ea, rfl⟩ := r
      unfold Zkr at e
      dsimp only at e
      split at e
      · rename_i xs eo
        obtain ⟨ds, e1, e2⟩ := Option.map_eq_some_iff.mp e
        subst e2
        obtain ⟨vs, h1, h2⟩ := R.obj l _ a eo ea
        exact .lst (.of h1) (travW_at (Zl8 R n) h2 e1)
      · rename_i xs eo
        obtain ⟨ds, e1, e2⟩ := Option.map_eq_some_iff.mp e
        subst e2
        obtain ⟨vs, h1, h2⟩ := R.obj l _ a eo ea
        exact .tup (.of h1) (travW_at (Zl8 R n) h2 e1)
      · rename_i xs eo
        cases e
        obtain ⟨o, h1⟩ := R.obj l _ a eo ea
        exact .lst (.inl (.inr ⟨o, h1⟩)) (dq_ints xs)
      · rename_i xs eo
        obtain ⟨ds, e1, e2⟩ := Option.map_eq_some_iff.mp e
        subst e2
        obtain ⟨vs, h1, h2⟩ := R.obj l _ a eo ea
        exact .dic h1 (travKW_at (Zl8 R n) h2 e1)
      · cases e
    | non => exact Zjv (w := .non) r e
    | bl b => exact Zjv (w := .bl b) r e
    | int b => exact Zjv (w := .int b) r e
    | str b => exact Zjv (w := .str b) r e
noncomputable def Zjc (d : PyData) : Bool := reprOk d && decide (d.depth ≤ 60)
noncomputable def Zfr (a : EM) : EM := fun σ μ => (a σ μ).bind fun x μ1 => match x with
  | .loc l => match Zkr μ1 60 (.loc l) with
    | some d => if Zjc d = true then .ok (.str d.shown) μ1 else .bad
    | none => .bad
  | w => match reprAt w with
    | some t => .ok (.str t) μ1
    | none => .bad
noncomputable def rReprV (K : PySem.W.Frag) : List V → Hp → VK → Prop := fun xs H Q => rReprQ K xs H Q ∨ rRepr0 xs H Q
theorem call_reprV {X : Cx} (hg : X.A.guards = some []) (hu : X.A.units + 66 < cLine) : CallR X (.builtin "repr") (rReprV X.K) := by
  intro pins s σ H xs us Q I r h
  rcases h with h | h
  · exact call_reprQ hg hu pins s σ H xs us Q I r h
  · exact call_repr0 hg hu pins s σ H xs us Q I r h
section
variable {X : Cx} {G : Gt} {fn : Nat → Str} {EX : XK} {a : Expr} {fa : EM} {pos : Pos}
theorem Zg5 {x : Str} {p : Pos} (hG : X.A.guards = some []) (hu : X.A.units + 66 < cLine) (hK : X.K = G.K) (hg : Gl X x) (hm : X.mg x = none) (hv : bootBuiltins x = some (.builtin "repr")) (ha : PE X a (tE G fn EX fa)) (hn : x ≠ "__name__" := by decide) (hdb : (x == ("__debug__" : Str)) = false := by decide)
    (he : starEach [a] X.env = (false, eval a X.env) :: starEach [] X.env := by rfl) (hpl : (backTo pos (starEach [] X.env)).any (·.1) = false := by rfl) :
    PE X (.Call (.Name x p) [a] [] pos) (tE G fn EX (Zfr fa)) :=
  PE.imp (pe_callB (call_reprV hG hu) hg hm hv (pa_cons ha pa_nil he) hn hdb he hpl) fun τ H Q h => by
    obtain ⟨ρ, σ, μ, R, S, h⟩ := h
    refine Zc4 R S h fun ρ1 x μ1 v H1 g1 R1 S1 rx h => ?_
    cases x with
    | loc l =>
      dsimp only at h
      cases e : Zkr μ1 60 (.loc l) with
      | none => rw [e] at h; exact h.elim
      | some d =>
        rw [e] at h
        dsimp only at h
        by_cases ok : Zjc d = true
        · rw [if_pos ok] at h
          have dp := Zl8 R1 60 _ _ d rx e
          obtain ⟨b, rb⟩ : ∃ b, v = .ref b := by
            have rx := rx
            obtain ⟨b, e2, _⟩ := (show ∃ a, _ ∧ v = V.ref a from rx)
            first | exact ⟨b, e2⟩ | exact ⟨_, ‹v = V.ref _›⟩
          subst rb
          obtain ⟨o1, o2⟩ := Bool.and_eq_true_iff.mp ok
          exact .inl ⟨b, d, rfl, by rw [hK]; exact dp, of_decide_eq_true o2, o1, h ρ1 H1 _ g1 R1 rfl⟩
        · rw [if_neg ok] at h
          exact h.elim
    | non =>
      cases (show v = .non from rx)
      exact .inr (.inl ⟨rfl, h ρ1 H1 _ g1 R1 rfl⟩)
    | bl b =>
      cases (show v = .bl b from rx)
      exact .inr (.inr (.inl ⟨b, rfl, h ρ1 H1 _ g1 R1 rfl⟩))
    | int i =>
      cases (show v = .int i from rx)
      dsimp only [reprAt] at h
      by_cases c : i.natAbs.log2 < 1920
      · rw [if_pos c] at h
        exact .inr (.inr (.inr (.inl ⟨i, rfl, c, h ρ1 H1 _ g1 R1 rfl⟩)))
      · rw [if_neg c] at h
        exact h.elim
    | str x =>
      cases (show v = .str x from rx)
      dsimp only [reprAt] at h
      by_cases c : (reprText x).length ≤ sizeLine
      · rw [if_pos c] at h
        exact .inr (.inr (.inr (.inr (.inl ⟨x, rfl, c, h ρ1 H1 _ g1 R1 rfl⟩))))
      · rw [if_neg c] at h
        exact h.elim
end
/-! over trees -/
noncomputable def Zld (g : T → Option PyData) : List (Key × T) → Option (List (PyData × PyData))
  | [] => some []
  | p :: xs => (g p.2).bind fun d => (Zld g xs).map fun ds => (Zh8 p.1, d) :: ds
noncomputable def flatTD : T → Option PyData
  | .non => some .none
  | .bl b => some (.bool b)
  | .int i => some (.int i)
  | .str x => some (.str x)
  | _ => none
noncomputable def Zgw (s : Sd) : Nat → T → Option PyData
  | 0, t => flatTD t
  | n + 1, t => match ob s t with
    | some (.lst ts) => (Zg0 (Zgw s n) ts).map .list
    | some (.tup ts) => (Zg0 (Zgw s n) ts).map .tuple
    | some (.scr ns) => some (.list (ns.map .int))
    | some (.dic kvs) => (Zld (Zgw s n) kvs).map .dict
    | some _ => none
    | none => flatTD t
section
variable {c : List Nat} {μ : Mem} {s : Sd}
theorem flatTD_at {t : T} {w : W} {d : PyData} (r : Dt none c μ t w) (e : flatTD t = some d) : flatD w = some d := by
  cases t with
  | non => cases e; rw [Zi0 r]; rfl
  | bl b => cases e; rw [Zjf r]; rfl
  | int b => cases e; rw [Zfb r]; rfl
  | str b => cases e; rw [Zgy r]; rfl
  | _ => cases e
theorem flat_deepQ {w : W} {d : PyData} (n : Nat) (e : flatD w = some d) : Zkr μ n w = some d := by
  cases n with
  | zero => exact e
  | succ n => cases w with
    | loc l => cases e
    | _ => exact e
theorem travP_at {g : T → Option PyData} {g2 : W → Option PyData} (one : ∀ {t : T} {w : W} {d : PyData}, Dt none c μ t w → g t = some d → g2 w = some d) : ∀ {ts : List T} {ws : List W} {ds : List PyData}, DtL none c μ ts ws → Zg0 g ts = some ds → travW g2 ws = some ds
  | [], ws, ds, r, e => by
    unfold DtL at r
    subst r
    unfold Zg0 at e
    unfold travW
    exact e
  | t :: ts, ws, ds, r, e => by
    unfold DtL at r
    obtain ⟨v, vs, rfl, a, b⟩ := r
    unfold Zg0 at e
    obtain ⟨d, e1, e2⟩ := Option.bind_eq_some_iff.mp e
    obtain ⟨ds', e3, e4⟩ := Option.map_eq_some_iff.mp e2
    unfold travW
    rw [one a e1, Option.bind_some, travP_at one b e3, ← e4]
    rfl
theorem travKT_at {g : T → Option PyData} {g2 : W → Option PyData} (one : ∀ {t : T} {w : W} {d : PyData}, Dt none c μ t w → g t = some d → g2 w = some d) : ∀ {ts : List (Key × T)} {ws : List (Key × W)} {ds : List (PyData × PyData)}, DtK none c μ ts ws → Zld g ts = some ds → Zla g2 ws = some ds
  | [], ws, ds, r, e => by
    unfold DtK at r
    subst r
    unfold Zld at e
    unfold Zla
    exact e
  | (k, t) :: ts, ws, ds, r, e => by
    unfold DtK at r
    obtain ⟨v, vs, rfl, a, b⟩ := r
    unfold Zld at e
    obtain ⟨d, e1, e2⟩ := Option.bind_eq_some_iff.mp e
    obtain ⟨ds', e3, e4⟩ := Option.map_eq_some_iff.mp e2
    unfold Zla
    dsimp only
    rw [one a e1, Option.bind_some, travKT_at one b e3, ← e4]
    rfl
theorem Zl6 (h : CO none c μ s) : ∀ (n : Nat) {t : T} {w : W} {d : PyData}, Dt none c μ t w → Zgw s n t = some d → Zkr μ n w = some d
  | 0, t, w, d, r, e => flatTD_at r e
  | n + 1, t, w, d, r, e => by
    unfold Zgw at e
    split at e
    · rename_i ts e1
      obtain ⟨ds, e2, e3⟩ := Option.map_eq_some_iff.mp e
      obtain ⟨l, u, rfl, a, ws, rfl, q⟩ := Ze3 h r e1
      unfold Zkr
      dsimp only
      rw [a]
      dsimp only
      rw [travP_at (Zl6 h n) q e2, ← e3]
      rfl
    · rename_i ts e1
      obtain ⟨ds, e2, e3⟩ := Option.map_eq_some_iff.mp e
      obtain ⟨l, u, rfl, a, ws, rfl, q⟩ := Ze3 h r e1
      unfold Zkr
      dsimp only
      rw [a]
      dsimp only
      rw [travP_at (Zl6 h n) q e2, ← e3]
      rfl
    · rename_i ns e1
      obtain ⟨l, u, rfl, a, rfl⟩ := Ze3 h r e1
      unfold Zkr
      dsimp only
      rw [a]
      exact e
    · rename_i ts e1
      obtain ⟨ds, e2, e3⟩ := Option.map_eq_some_iff.mp e
      obtain ⟨l, u, rfl, a, ws, hu, q⟩ := Ze3 h r e1
      rcases hu with rfl | ⟨z, _⟩
      · unfold Zkr
        dsimp only
        rw [a]
        dsimp only
        rw [travKT_at (Zl6 h n) q e2, ← e3]
        rfl
      · cases z
    · cases e
    · exact flat_deepQ (n + 1) (flatTD_at r e)
end
noncomputable def Ze6 (a : DE) : DE := fun δ s => (a δ s).bind fun x s1 => match fl x with
  | some _ => match reprTx x with
    | some z => .ok (.str z) s1
    | none => .bad
  | none => match Zgw s1 60 x with
    | some d => if Zjc d = true then .ok (.str d.shown) s1 else .bad
    | none => .bad
theorem Zhe {a : EM} {da : DE} (ha : RE none a da) : RE none (Zfr a) (Ze6 da) := fun h sd => (ha h sd).bind fun x s1 w μ1 c1 n1 h1 dx => by
  cases hf : fl x with
  | none =>
    obtain ⟨l, rfl⟩ := fl_no dx hf
    dsimp only
    cases q : Zgw s1 60 x with
    | none => exact True.intro
    | some d =>
      rw [Zl6 h1 60 dx q]
      dsimp only
      by_cases ok : Zjc d = true
      · rw [if_pos ok, if_pos ok]
        exact Zdr h1 (Zhx _)
      · rw [if_neg ok, if_neg ok]
        exact True.intro
  | some y =>
    dsimp only
    cases x with
    | non =>
      have := Zi0 dx
      subst this
      exact Zdr h1 (Zhx _)
    | bl b =>
      have := Zjf dx
      subst this
      exact Zdr h1 (Zhx _)
    | int i =>
      have := Zfb dx
      subst this
      dsimp only [reprAt, reprTx]
      by_cases c : i.natAbs.log2 < 1920
      · rw [if_pos c]
        exact Zdr h1 (Zhx _)
      · rw [if_neg c]
        exact True.intro
    | str i =>
      have := Zgy dx
      subst this
      dsimp only [reprAt, reprTx]
      by_cases c : (reprText i).length ≤ sizeLine
      · rw [if_pos c]
        exact Zdr h1 (Zhx _)
      · rw [if_neg c]
        exact True.intro
    | _ => cases hf
end Vs
/-! A fresh list becomes a cell: what a value reads is determined, and no list is within itself. -/
namespace Vs
open PySem L2
section
variable {c : List Nat} {μ : Mem}
theorem cell_det (nd : c.Nodup) {k k' l : Nat} (h : c[k]? = some l) (h' : c[k']? = some l) : k = k' := by
  have h1 := (List.getElem?_eq_some_iff.mp h).1
  exact (List.getElem?_inj h1 nd).mp (h.trans h'.symm)
theorem Zl7 {t t' : T} {w a : W} (f : fl t = some a) (h : Dt none c μ t w) (h' : Dt none c μ t' w) : t = t' := by
  have e := Zj2 h f
  subst e
  cases f' : fl t' with
  | none =>
    obtain ⟨l, q⟩ := fl_no h' f'
    have := fl_flat f
    rw [q] at this
    cases this
  | some b =>
    have e2 := Zj2 h' f'
    subst e2
    cases t <;> first | (cases f; done) | (cases f; cases t' <;> first | (cases f'; done) | (cases f'; rfl))
mutual
theorem Dt.det (nd : c.Nodup) : ∀ {t : T} {t' : T} {w : W}, Dt none c μ t w → Dt none c μ t' w → t = t'
  | .non, t', w, h, h' => Zl7 rfl h h'
  | .bl b, t', w, h, h' => Zl7 rfl h h'
  | .int b, t', w, h, h' => Zl7 rfl h h'
  | .str b, t', w, h, h' => Zl7 rfl h h'
  | .cell k, t', w, h, h' => by
    unfold Dt at h
    obtain ⟨l, e, rfl⟩ := h
    have hm := List.mem_of_getElem? e
    cases t' with
    | cell k' =>
      unfold Dt at h'
      obtain ⟨l', e', q⟩ := h'
      cases q
      rw [cell_det nd e e']
    | lst ts => unfold Dt at h'; obtain ⟨l', _, q, n, _⟩ := h'; cases q; exact absurd hm n
    | tup ts => unfold Dt at h'; obtain ⟨l', _, q, n, _⟩ := h'; cases q; exact absurd hm n
    | dic ts => unfold Dt at h'; obtain ⟨l', _, q, n, _⟩ := h'; cases q; exact absurd hm n
    | ins n ts => unfold Dt at h'; obtain ⟨l', _, q, n, _⟩ := h'; cases q; exact absurd hm n
    | exn n t => unfold Dt at h'; obtain ⟨l', _, _, _, q, n, _⟩ := h'; cases q; exact absurd hm n
    | _ => unfold Dt at h'; cases h'
  | .lst ts, t', w, h, h' => by
    unfold Dt at h
    obtain ⟨l, ws, rfl, n, a, r⟩ := h
    cases t' with
    | cell k' => unfold Dt at h'; obtain ⟨l', e', q⟩ := h'; cases q; exact absurd (List.mem_of_getElem? e') n
    | lst ts' =>
      unfold Dt at h'
      obtain ⟨l', ws', q, _, a', r'⟩ := h'
      cases q
      rw [a] at a'
      cases a'
      rw [DtL.det nd r r']
    | tup ts => unfold Dt at h'; obtain ⟨l', _, q, _, a', _⟩ := h'; cases q; rw [a] at a'; cases a'
    | dic ts => unfold Dt at h'; obtain ⟨l', _, q, _, a', _⟩ := h'; cases q; rcases a' with a' | ⟨z, _⟩; (rw [a] at a'; cases a'); cases z
    | ins n ts => unfold Dt at h'; obtain ⟨l', _, q, _, a', _⟩ := h'; cases q; rw [a] at a'; cases a'
    | exn n t => unfold Dt at h'; obtain ⟨l', _, _, _, q, _, _, a', _⟩ := h'; cases q; rw [a] at a'; cases a'
    | _ => unfold Dt at h'; cases h'
  | .tup ts, t', w, h, h' => by
    unfold Dt at h
    obtain ⟨l, ws, rfl, n, a, r⟩ := h
    cases t' with
    | cell k' => unfold Dt at h'; obtain ⟨l', e', q⟩ := h'; cases q; exact absurd (List.mem_of_getElem? e') n
    | tup ts' =>
      unfold Dt at h'
      obtain ⟨l', ws', q, _, a', r'⟩ := h'
      cases q
      rw [a] at a'
      cases a'
      rw [DtL.det nd r r']
    | lst ts => unfold Dt at h'; obtain ⟨l', _, q, _, a', _⟩ := h'; cases q; rw [a] at a'; cases a'
    | dic ts => unfold Dt at h'; obtain ⟨l', _, q, _, a', _⟩ := h'; cases q; rcases a' with a' | ⟨z, _⟩; (rw [a] at a'; cases a'); cases z
    | ins n ts => unfold Dt at h'; obtain ⟨l', _, q, _, a', _⟩ := h'; cases q; rw [a] at a'; cases a'
    | exn n t => unfold Dt at h'; obtain ⟨l', _, _, _, q, _, _, a', _⟩ := h'; cases q; rw [a] at a'; cases a'
    | _ => unfold Dt at h'; cases h'
  | .dic ts, t', w, h, h' => by
    unfold Dt at h
    obtain ⟨l, ws, rfl, n, a, r⟩ := h
    have a : μ[l]? = some (.dic ws) := by rcases a with a | ⟨z, _⟩; exact a; cases z
    cases t' with
    | cell k' => unfold Dt at h'; obtain ⟨l', e', q⟩ := h'; cases q; exact absurd (List.mem_of_getElem? e') n
    | dic ts' =>
      unfold Dt at h'
      obtain ⟨l', ws', q, _, a', r'⟩ := h'
      cases q
      rcases a' with a' | ⟨z, _⟩
      · rw [a] at a'
        cases a'
        rw [DtK.det nd r r']
      · cases z
    | lst ts => unfold Dt at h'; obtain ⟨l', _, q, _, a', _⟩ := h'; cases q; rw [a] at a'; cases a'
    | tup ts => unfold Dt at h'; obtain ⟨l', _, q, _, a', _⟩ := h'; cases q; rw [a] at a'; cases a'
    | ins n ts => unfold Dt at h'; obtain ⟨l', _, q, _, a', _⟩ := h'; cases q; rw [a] at a'; cases a'
    | exn n t => unfold Dt at h'; obtain ⟨l', _, _, _, q, _, _, a', _⟩ := h'; cases q; rw [a] at a'; cases a'
    | _ => unfold Dt at h'; cases h'
  | .ins n0 ts, t', w, h, h' => by
    unfold Dt at h
    obtain ⟨l, ws, rfl, n, a, r⟩ := h
    cases t' with
    | cell k' => unfold Dt at h'; obtain ⟨l', e', q⟩ := h'; cases q; exact absurd (List.mem_of_getElem? e') n
    | ins n1 ts' =>
      unfold Dt at h'
      obtain ⟨l', ws', q, _, a', r'⟩ := h'
      cases q
      rw [a] at a'
      cases a'
      rw [DtF.det nd r r']
    | lst ts => unfold Dt at h'; obtain ⟨l', _, q, _, a', _⟩ := h'; cases q; rw [a] at a'; cases a'
    | tup ts => unfold Dt at h'; obtain ⟨l', _, q, _, a', _⟩ := h'; cases q; rw [a] at a'; cases a'
    | dic ts => unfold Dt at h'; obtain ⟨l', _, q, _, a', _⟩ := h'; cases q; rcases a' with a' | ⟨z, _⟩; (rw [a] at a'; cases a'); cases z
    | exn n t => unfold Dt at h'; obtain ⟨l', _, _, _, q, _, _, a', _⟩ := h'; cases q; rw [a] at a'; cases a'
    | _ => unfold Dt at h'; cases h'
  | .exn n0 t, t', w, h, h' => by
    unfold Dt at h
    obtain ⟨l, dl, _, v, rfl, n, _, a, a2, r⟩ := h
    cases t' with
    | cell k' => unfold Dt at h'; obtain ⟨l', e', q⟩ := h'; cases q; exact absurd (List.mem_of_getElem? e') n
    | exn n1 t' =>
      unfold Dt at h'
      obtain ⟨l', dl', _, v', q, _, _, a', a2', r'⟩ := h'
      cases q
      rw [a] at a'
      cases a'
      rw [a2] at a2'
      cases a2'
      rw [Dt.det nd r r']
    | lst ts => unfold Dt at h'; obtain ⟨l', _, q, _, a', _⟩ := h'; cases q; rw [a] at a'; cases a'
    | tup ts => unfold Dt at h'; obtain ⟨l', _, q, _, a', _⟩ := h'; cases q; rw [a] at a'; cases a'
    | dic ts => unfold Dt at h'; obtain ⟨l', _, q, _, a', _⟩ := h'; cases q; rcases a' with a' | ⟨z, _⟩; (rw [a] at a'; cases a'); cases z
    | ins n ts => unfold Dt at h'; obtain ⟨l', _, q, _, a', _⟩ := h'; cases q; rw [a] at a'; cases a'
    | _ => unfold Dt at h'; cases h'
theorem DtL.det (nd : c.Nodup) : ∀ {ts : List T} {ts' : List T} {ws : List W}, DtL none c μ ts ws → DtL none c μ ts' ws → ts = ts'
  | [], ts', ws, h, h' => by
    unfold DtL at h
    subst h
    cases ts' with
    | nil => rfl
    | cons t r => unfold DtL at h'; obtain ⟨_, _, e, _⟩ := h'; cases e
  | t :: r, ts', ws, h, h' => by
    unfold DtL at h
    obtain ⟨v, vs, rfl, a, b⟩ := h
    cases ts' with
    | nil => unfold DtL at h'; cases h'
    | cons t' r' =>
      unfold DtL at h'
      obtain ⟨v', vs', e, a', b'⟩ := h'
      cases e
      rw [Dt.det nd a a', DtL.det nd b b']
theorem DtK.det (nd : c.Nodup) : ∀ {ts : List (Key × T)} {ts' : List (Key × T)} {ws : List (Key × W)}, DtK none c μ ts ws → DtK none c μ ts' ws → ts = ts'
  | [], ts', ws, h, h' => by
    unfold DtK at h
    subst h
    cases ts' with
    | nil => rfl
    | cons t r => unfold DtK at h'; obtain ⟨_, _, e, _⟩ := h'; cases e
  | (k, t) :: r, ts', ws, h, h' => by
    unfold DtK at h
    obtain ⟨v, vs, rfl, a, b⟩ := h
    cases ts' with
    | nil => unfold DtK at h'; cases h'
    | cons t' r' =>
      unfold DtK at h'
      obtain ⟨v', vs', e, a', b'⟩ := h'
      cases e
      rw [Dt.det nd a a', DtK.det nd b b']
theorem DtF.det (nd : c.Nodup) : ∀ {ts : List (Str × T)} {ts' : List (Str × T)} {ws : List (Str × W)}, DtF none c μ ts ws → DtF none c μ ts' ws → ts = ts'
  | [], ts', ws, h, h' => by
    unfold DtF at h
    subst h
    cases ts' with
    | nil => rfl
    | cons t r => unfold DtF at h'; obtain ⟨_, _, e, _⟩ := h'; cases e
  | (k, t) :: r, ts', ws, h, h' => by
    unfold DtF at h
    obtain ⟨v, vs, rfl, a, b⟩ := h
    cases ts' with
    | nil => unfold DtF at h'; cases h'
    | cons t' r' =>
      unfold DtF at h'
      obtain ⟨v', vs', e, a', b'⟩ := h'
      cases e
      rw [Dt.det nd a a', DtF.det nd b b']
end
end
end Vs
/-! A fresh list becomes a cell. -/
namespace Vs
open PySem L2
section
variable {c : List Nat} {μ : Mem} {l : Nat} {ts0 : List T} {ws0 : List W}
theorem Zkm {l' : Nat} (n : l' ∉ c) (h : l' ≠ l) : l' ∉ c ++ [l] := fun z => by
  rcases List.mem_append.mp z with z | z
  · exact n z
  · exact h (List.mem_singleton.mp z)
theorem cell_app {k l' : Nat} (e : c[k]? = some l') : (c ++ [l])[k]? = some l' := by
  rw [List.getElem?_append_left (List.getElem?_eq_some_iff.mp e).1]
  exact e
mutual
theorem Dt.avoid (nd : c.Nodup) (a0 : μ[l]? = some (.lst ws0)) (d0 : DtL none c μ ts0 ws0) : ∀ {t : T} {w : W}, sizeOf t < sizeOf (T.lst ts0) → Dt none c μ t w → Dt none (c ++ [l]) μ t w
  | .non, _, _, h => by unfold Dt at h ⊢; exact h
  | .bl _, _, _, h => by unfold Dt at h ⊢; exact h
  | .int _, _, _, h => by unfold Dt at h ⊢; exact h
  | .str _, _, _, h => by unfold Dt at h ⊢; exact h
  | .cell k, _, _, h => by
    unfold Dt at h ⊢
    obtain ⟨l', e, r⟩ := h
    exact ⟨l', cell_app e, r⟩
  | .lst ts, _, z, h => by
    unfold Dt at h ⊢
    obtain ⟨l', ws, e, n, a, r⟩ := h
    refine ⟨l', ws, e, Zkm n fun q => ?_, a, DtL.avoid nd a0 d0 (by simp only [T.lst.sizeOf_spec] at z ⊢; omega) r⟩
    subst q
    rw [a0] at a
    cases a
    rw [DtL.det nd r d0] at z
    exact Nat.lt_irrefl _ z
  | .tup ts, _, z, h => by
    unfold Dt at h ⊢
    obtain ⟨l', ws, e, n, a, r⟩ := h
    refine ⟨l', ws, e, Zkm n fun q => ?_, a, DtL.avoid nd a0 d0 (by simp only [T.tup.sizeOf_spec, T.lst.sizeOf_spec] at z ⊢; omega) r⟩
    subst q
    rw [a0] at a
    cases a
  | .dic ts, _, z, h => by
    unfold Dt at h ⊢
    obtain ⟨l', ws, e, n, a, r⟩ := h
    refine ⟨l', ws, e, Zkm n fun q => ?_, a, DtK.avoid nd a0 d0 (by simp only [T.dic.sizeOf_spec, T.lst.sizeOf_spec] at z ⊢; omega) r⟩
    subst q
    rcases a with a | ⟨z, _⟩
    · rw [a0] at a
      cases a
    · cases z
  | .ins i ts, _, z, h => by
    unfold Dt at h ⊢
    obtain ⟨l', ws, e, n, a, r⟩ := h
    refine ⟨l', ws, e, Zkm n fun q => ?_, a, DtF.avoid nd a0 d0 (by simp only [T.ins.sizeOf_spec, T.lst.sizeOf_spec] at z ⊢; omega) r⟩
    subst q
    rw [a0] at a
    cases a
  | .exn i t, _, z, h => by
    unfold Dt at h ⊢
    obtain ⟨l', dl, f, v, e, n, n2, a, a2, r⟩ := h
    refine ⟨l', dl, f, v, e, Zkm n fun q => ?_, Zkm n2 fun q => ?_, a, a2, Dt.avoid nd a0 d0 (by simp only [T.exn.sizeOf_spec, T.lst.sizeOf_spec] at z ⊢; omega) r⟩
    · subst q
      rw [a0] at a
      cases a
    · subst q
      rw [a0] at a2
      cases a2
theorem DtL.avoid (nd : c.Nodup) (a0 : μ[l]? = some (.lst ws0)) (d0 : DtL none c μ ts0 ws0) : ∀ {ts : List T} {ws : List W}, sizeOf ts < sizeOf (T.lst ts0) → DtL none c μ ts ws → DtL none (c ++ [l]) μ ts ws
  | [], _, _, h => by unfold DtL at h ⊢; exact h
  | t :: ts, _, z, h => by
    unfold DtL at h ⊢
    obtain ⟨v, vs, e, a, b⟩ := h
    simp only [List.cons.sizeOf_spec] at z
    exact ⟨v, vs, e, Dt.avoid nd a0 d0 (by omega) a, DtL.avoid nd a0 d0 (by omega) b⟩
theorem DtK.avoid (nd : c.Nodup) (a0 : μ[l]? = some (.lst ws0)) (d0 : DtL none c μ ts0 ws0) : ∀ {ts : List (Key × T)} {ws : List (Key × W)}, sizeOf ts < sizeOf (T.lst ts0) → DtK none c μ ts ws → DtK none (c ++ [l]) μ ts ws
  | [], _, _, h => by unfold DtK at h ⊢; exact h
  | (k, t) :: ts, _, z, h => by
    unfold DtK at h ⊢
    obtain ⟨v, vs, e, a, b⟩ := h
    simp only [List.cons.sizeOf_spec, Prod.mk.sizeOf_spec] at z
    exact ⟨v, vs, e, Dt.avoid nd a0 d0 (by omega) a, DtK.avoid nd a0 d0 (by omega) b⟩
theorem DtF.avoid (nd : c.Nodup) (a0 : μ[l]? = some (.lst ws0)) (d0 : DtL none c μ ts0 ws0) : ∀ {ts : List (Str × T)} {ws : List (Str × W)}, sizeOf ts < sizeOf (T.lst ts0) → DtF none c μ ts ws → DtF none (c ++ [l]) μ ts ws
  | [], _, _, h => by unfold DtF at h ⊢; exact h
  | (k, t) :: ts, _, z, h => by
    unfold DtF at h ⊢
    obtain ⟨v, vs, e, a, b⟩ := h
    simp only [List.cons.sizeOf_spec, Prod.mk.sizeOf_spec] at z
    exact ⟨v, vs, e, Dt.avoid nd a0 d0 (by omega) a, DtF.avoid nd a0 d0 (by omega) b⟩
end
end
/-- what holds numbers, texts and the like alone -/
noncomputable def Zm0 : TO → Bool
  | .lst ts => ts.all fun t => (fl t).isSome
  | .scr _ => true
  | _ => false
theorem flat_any {c c' : List Nat} {μ : Mem} {t : T} {w : W} (f : (fl t).isSome = true) (h : Dt none c μ t w) : Dt none c' μ t w := by
  cases t <;> first | (unfold Dt at h ⊢; exact h) | cases f
theorem Zm7 {c c' : List Nat} {μ : Mem} : ∀ {ts : List T} {ws : List W}, (ts.all fun t => (fl t).isSome) = true → DtL none c μ ts ws → DtL none c' μ ts ws
  | [], _, _, h => by unfold DtL at h ⊢; exact h
  | t :: ts, _, f, h => by
    unfold DtL at h ⊢
    obtain ⟨v, vs, e, a, b⟩ := h
    rw [List.all_cons, Bool.and_eq_true] at f
    exact ⟨v, vs, e, flat_any f.1 a, Zm7 f.2 b⟩
theorem co_thaw {c : List Nat} {m : Mem} {s : Sd} (h : CO none c m s) {l : Nat} {ts : List T} {ws : List W} (hl : l ∉ c) (a : m[l]? = some (.lst ws)) (d : DtL none c m ts ws) (f : s.all Zm0 = true) : CO none (c ++ [l]) m (s ++ [.lst ts]) := by
  refine ⟨by simp [h.len], List.nodup_append.mpr ⟨h.nd, by simp, fun x hx y hy => by rw [List.mem_singleton.mp hy]; exact fun e => hl (e ▸ hx)⟩, fun k l' o e1 e2 => ?_⟩
  rcases Nat.lt_or_ge k c.length with hk | hk
  · rw [List.getElem?_append_left hk] at e1
    rw [List.getElem?_append_left (by rw [← h.len]; exact hk)] at e2
    obtain ⟨u, e3, r⟩ := h.ob k l' o e1 e2
    refine ⟨u, e3, ?_⟩
    have fo := List.all_eq_true.mp f o (List.mem_of_getElem? e2)
    cases o with
    | lst ts' =>
      obtain ⟨ws', e, r⟩ := r
      exact ⟨ws', e, Zm7 fo r⟩
    | scr ns => exact r
    | _ => cases fo
  · rw [List.getElem?_append_right hk] at e1
    rw [List.getElem?_append_right (by rw [← h.len]; exact hk)] at e2
    have k0 : k - c.length = 0 := by
      have := (List.getElem?_eq_some_iff.mp e1).1
      rw [List.length_singleton] at this
      omega
    rw [k0] at e1
    rw [← h.len, k0] at e2
    cases e1
    cases e2
    exact ⟨_, a, ws, rfl, DtL.avoid h.nd a d (by simp only [T.lst.sizeOf_spec]; omega) d⟩
/-- an expression behind which no new cell is known -/
noncomputable def x_scope (d : DE) : DE := fun δ s => pop s.length (fun s1 t => fr s.length s1 FU t) (d δ s)
theorem r_scope {e : EM} {d : DE} (h : RE none e d) : RE none e (x_scope d) := fun hc sd => rr_pop hc (h hc sd)
/-- the sum of two lists as a cell -/
noncomputable def x_addC (a b : DE) : DE := fun δ s => (a δ s).bind fun x s1 => (b δ s1).bind fun y s2 => match ob s2 x, ob s2 y with
  | some (.lst xs), some (.lst ys) => if xs.length + ys.length ≤ LIM then .ok (.cell s2.length) (s2 ++ [.lst (xs ++ ys)]) else .bad
  | _, _ => .bad
theorem dtl_app2 {c : List Nat} {μ : Mem} : ∀ {ts us : List T} {ws vs : List W}, DtL none c μ ts ws → DtL none c μ us vs → DtL none c μ (ts ++ us) (ws ++ vs)
  | [], _, _, _, a, b => by
    unfold DtL at a
    subst a
    exact b
  | t :: ts, _, _, _, a, b => by
    unfold DtL at a
    obtain ⟨v, vs, rfl, a1, a2⟩ := a
    exact Zdj a1 (dtl_app2 a2 b)
theorem r_addC {a b : EM} {da db : DE} (ha : RE none a da) (hb : RE none b db) : RE none (Za2 pAdd a b) (x_addC da db) := fun h sd => (ha h sd).bind fun tx s1 x μ1 c1 n1 h1 dx => (hb h1 (sd.mono n1)).bind fun ty s2 y μ2 c2 n2 h2 dy => by
  have dx := dx.mono n2
  split
  · rename_i xs ys e1 e2
    split
    · rename_i hl
      obtain ⟨l1, u1, rfl, a1, ws1, rfl, r1⟩ := Ze3 h2 dx e1
      obtain ⟨l2, u2, rfl, a2, ws2, rfl, r2⟩ := Ze3 h2 dy e2
      have e : pAdd (.loc l1) (.loc l2) μ2 = some (.loc μ2.length, μ2 ++ [.lst (ws1 ++ ws2)]) := by
        simp [pAdd, por, pAddI, pI, pAddS, pAddL, getL, a1, a2, r1.length, r2.length, hl]
      rw [e]
      exact Zko h2 ⟨_, rfl, dtl_app2 r1 r2⟩
    · exact True.intro
  · exact True.intro
end Vs
/-! A new instance by keywords. -/
namespace Vs
open PySem PySem.Spec PyProof.Rows L2
section
variable {G : Gt} {fn : Nat → Str} {EX : XK} {r : AM} {τ : L2.St} {H : Hp} {Q : VK} {c : Nat}
theorem i_makeK {n : Nat} {d : Fn} (hl : ALen n r) (h : tE G fn EX (e_make c d r) τ H Q) : tMakeK (G.ct c) 0 n (spF G fn (n + 1) d) (fun vs zs => vs ++ zs) EX tNil (tA G fn EX r) τ H Q := by
  obtain ⟨ρ, σ, μ, R, S, h⟩ := h
  show tA G fn EX r τ H _
  refine ⟨ρ, σ, μ, R, S, ?_⟩
  have h := wpR_bind.mp h
  cases ea : r σ μ with
  | ok ws m2 =>
    rw [ea] at h
    refine fun ρ2 H2 us g2 R2 r2 => ⟨rfl, by rw [← r2.length, hl _ _ _ _ ea], fun x dx nx ndx ne => ?_⟩
    have R3 : Rel G ρ2 m2 (upd H2 dx (.own x)) := R2.keep fun l a e => upd_ne (R2.trk e ndx)
    have nx' : upd H2 dx (.own x) x = none := by rw [upd_ne (Ne.symm ne)]; exact nx
    have R4 : Rel G (ρ2.push x) (m2 ++ [.ins c []]) (upd (upd H2 dx (.own x)) x (.ins (G.ct c) dx [])) := R3.new nx' fun ρ' g => ⟨dx, [], upd_same, .nil⟩
    refine ⟨ρ2.push x, _, _ :: ws, R4, .cons (Zie R2 x) (RVs.mono (Gr.snoc ρ2 x) r2), by rw [List.length_cons, hl _ _ _ _ ea], ?_⟩
    have g2x := g2.trans (Gr.snoc ρ2 x)
    refine Zbv (wpR_bind.mp h) (fun rr m3 h ρ3 H3 v g3 R3 r3 => ?_) fun _ _ _ z => PostX.mono g2x z
    split at h
    · exact ⟨r3, h ρ3 H3 _ (g2x.trans g3) R3 (RV.mono g3 (Zie R2 x))⟩
    · exact h.elim
  | exc cc w mm =>
    rw [ea] at h
    exact h
  | bad =>
    rw [ea] at h
    exact h.elim
end
theorem binds_kw1 {K : PySem.W.Frag} {x qual : Str} {st : Stmt} {f : Addr} {fd : FuncData} {ps ks : List Str} (F : Fun K x qual st f fd)
    (b : ∀ (kV doc pm' : Value) (an : Option Addr) (cdv ct : Value) (us ws : List Value), us.length = 1 → ws.length = ks.length → bindArgs (PySem.W.fnOf x qual (defArgs st) (defBody st) (defScope st) .none kV doc pm' an cdv ct) ⟨us, ks.zip ws⟩ = pure (ps.zip (us ++ ws))) :
    ∀ (s : Shared) (us ws : List Value), us.length = 1 → ws.length = ks.length → BindsTo s fd ⟨us, ks.zip ws⟩ (ps.zip (us ++ ws)) := fun s us ws h1 h2 => by
  obtain ⟨oc, od, kV, doc, pm', an, cdv, ct, osl, rfl, _⟩ := F.ex
  exact .of_eq (b kV doc pm' an cdv ct us ws h1 h2)
section
variable {X : Cx} {G : Gt} {fn : Nat → Str} {EX : XK} {r : AM} {kws : List Keyword} {pos : Pos} {c : Nat}
theorem v_makeK {CX : CXT} {k n : Nat} {g : Addr} {fd : FuncData} {ps ks : List Str} {d : Fn} {x : Str} {p : Pos} (hK : X.K = G.K) (M : Mk G.K (G.ct c) g) (F : FnOk X.prog X.w X.K X.mg X.base CX k g fd ps (spF G fn (n + 1) d)) (hr : Room (k + 1) X.A) (hg : Gl X x) (hm : X.mg x = some (.ref (G.ct c)))
    (hb : ∀ (s : Shared) (us ws : List Value), us.length = 1 → ws.length = ks.length → BindsTo s fd ⟨us, ks.zip ws⟩ (ps.zip (us ++ ws))) (hx : Passes CX X EX) (hl : ALen n r) (hn : ks.length = n)
    (hkw : PK X kws (tA G fn EX r)) (hall : (backToKw pos (keywordEach kws X.env)).all (·.1.isSome) = true := by rfl) (hks : (backToKw pos (keywordEach kws X.env)).filterMap (·.1) = ks := by rfl) (hdb : (x == ("__debug__" : Str)) = false := by decide)
    (hpl : ((backTo pos (starEach [] X.env)).any (·.1) || (backToKw pos (keywordEach kws X.env)).any (·.1.isNone)) = false := by rfl) :
    PE X (.Call (.Name x p) [] kws pos) (tE G fn EX (e_make c d r)) := by
  subst hn
  exact PE.imp (pe_makeK0 (by rw [hK]; exact M) F hr hg hm ⟨fun s us ws _ h1 h2 => hb s us ws h1 h2, fun r1 r2 => r1.append r2⟩ hx hkw hall hks hdb hpl) fun _ _ _ h => i_makeK hl h
end
end Vs
/-! three names at once -/
namespace Vs
open PySem L2
section
variable {X : Cx} {G : Gt} {fn : Nat → Str} {EX : XK} {a b c : Expr} {r : AM} {pos : Pos}
end
end Vs
/-! a text beside a dict -/
namespace Vs
open PySem PySem.Spec PyProof.Rows L2
end Vs
/-! d.get(k, x), and a dict of one written pair. -/
namespace Vs
open PySem PySem.Spec PyProof.Rows L2
section
variable {X : Cx} {G : Gt} {fn : Nat → Str} {EX : XK} {o e f : Expr} {fo fe ff : EM} {apos cpos pos : Pos}
end
end Vs
/-! d.get(k, x) and {k: v} over trees. -/
namespace Vs
open PySem L2
section
variable {o k d : EM} {od kd dd : DE} {lk : Option Nat}
end
end Vs
/-! == of data, where a dictionary may be locked. -/
namespace Vs
open PySem L2
end Vs
/-! A block behind which only some names are known. -/
namespace Vs
open PySem L2
noncomputable def frK (n : Nat) (s : Sd) (ks : List Nat) : Nat → Ed → Option Ed
  | _, [] => some []
  | i, x :: r => if i ∈ ks then (match x with
    | some t => (fr n s FU t).bind fun u => (frK n s ks (i + 1) r).map (some u :: ·)
    | none => (frK n s ks (i + 1) r).map (none :: ·)) else (frK n s ks (i + 1) r).map (none :: ·)
noncomputable def Zgz (ks : List Nat) (b : DSt) : DSt := fun δ s0 => match b δ s0 with
  | .ok (.nx δ1) s => match frK s0.length s ks 0 δ1, frS s0.length s (s.take s0.length) with
    | some δ2, some s' => .ok (.nx δ2) s'
    | _, _ => .bad
  | _ => .bad
section
variable {lk : Option Nat}
theorem frK_ok {ks : List Nat} {c0 e : List Nat} {m : Mem} {s : Sd} (F : FrOk lk c0 e m s FU) : ∀ {i : Nat} {σ : En} {δ δ' : Ed}, SD lk (c0 ++ e) m σ δ → frK c0.length s ks i δ = some δ' → SD lk c0 m σ δ'
  | _, _, _, _, .nil, h => by
    cases h
    exact .nil
  | i, _, x :: r, _, .cons q z, h => by
    unfold frK at h
    split at h
    · cases x with
      | none =>
        obtain ⟨u, e1, e2⟩ := Option.map_eq_some_iff.mp h
        subst e2
        exact .cons True.intro (frK_ok F z e1)
      | some t =>
        obtain ⟨u, e1, e2⟩ := Option.bind_eq_some_iff.mp h
        obtain ⟨us, e3, e4⟩ := Option.map_eq_some_iff.mp e2
        subst e4
        obtain ⟨w, rfl, d⟩ := q
        exact .cons (Zg8 (F.one d e1)) (frK_ok F z e3)
    · obtain ⟨u, e1, e2⟩ := Option.map_eq_some_iff.mp h
      subst e2
      exact .cons True.intro (frK_ok F z e1)
theorem rs_blkK {ks : List Nat} {b : SM} {db : DSt} (hb : RSt lk b db) : RSt lk b (Zgz ks db) := fun {c μ σ δ s0} h0 sd => by
  have h := hb h0 sd
  unfold Zgz
  cases q : db δ s0 with
  | bad => exact True.intro
  | exc n t s => exact True.intro
  | ok f s =>
    cases f with
    | nx δ1 =>
      rw [q] at h
      obtain ⟨f1, m, c', e0, x, o, σ1, rfl, sd1⟩ := h
      dsimp only
      split
      · rename_i t' s' e1 e2
        obtain ⟨e, rfl, he⟩ := x.gr
        rw [← h0.len] at e1 e2
        exact ⟨_, m, c, e0, x.pop, o.pop e2, σ1, rfl, frK_ok (fr_ok o FU) sd1 e1⟩
      · exact True.intro
    | _ => exact True.intro
end
end Vs
/-! isinstance of an instance with a built-in class; x[y] of an instance whose error is caught; x[y] of an instance while a dict is walked. -/
namespace Vs
open PySem PySem.Spec PyProof.Rows L2
/-- isinstance(x, T), x an instance of one of the classes L, too -/
noncomputable def e_isTO (T : String) (L : List Nat) (a : EM) : EM := fun σ μ => (a σ μ).bind fun x μ1 => match tyW μ1 x with
  | some t => .ok (.bl (subT t T)) μ1
  | none => if L.any (fun c => isC c μ1 x) = true then .ok (.bl false) μ1 else .bad
structure NoT (K : PySem.W.Frag) (T : String) (C : Addr) : Prop where
  cls : Cls K C
  isi : Isi K C
  no : PySem.W.kitOne K (.ref C) (.type T) = some false
theorem v_isTO {X : Cx} {G : Gt} {fn : Nat → Str} {EX : XK} {a : Expr} {fa : EM} {x : Str} {T : String} {L : List Nat} {p pt pos : Pos} (hK : X.K = G.K) (kit : Kit T) (hL : ∀ c ∈ L, NoT G.K T (G.ct c)) (hg : Gl X "isinstance") (hm : X.mg "isinstance" = none) (hgt : Gl X x) (hmt : X.mg x = none) (hv : bootBuiltins x = some (.type T))
    (ha : PE X a (tE G fn EX fa)) (hn : x ≠ "__name__" := by decide) (hd : (x == ("__debug__" : Str)) = false := by decide)
    (he : starEach [a, .Name x pt] X.env = (false, eval a X.env) :: starEach [.Name x pt] X.env := by rfl) (he2 : starEach [.Name x pt] X.env = (false, eval (.Name x pt) X.env) :: starEach [] X.env := by rfl) (hpl : (backTo pos (starEach [.Name x pt] X.env)).any (·.1) = false := by rfl) :
    PE X (.Call (.Name "isinstance" p) [a, .Name x pt] [] pos) (tE G fn EX (e_isTO T L fa)) :=
  PE.imp (pe_callB call_isi hg hm (by decide +kernel) (pa_cons ha (pa_cons (pe_bltn (v := .ty T) hgt hmt hv rfl hn hd) pa_nil he2) he) (by decide) (by decide) he hpl) fun τ H Q h => by
    obtain ⟨ρ, σ, μ, R, S, h⟩ := h
    refine Zc4 R S h fun ρ1 x μ1 v H1 g1 R1 S1 rx h => ?_
    split at h
    · rename_i t e
      exact ⟨v, .ty T, .type t, .type T, subT t T, rfl, .ty T, by rw [hK]; exact tyW_at R1 rx e, kit X.K t (tyW_mem e), h ρ1 H1 _ g1 R1 rfl⟩
    · split at h
      · rename_i hi
        obtain ⟨c, hc, hi⟩ := List.any_eq_true.mp hi
        obtain ⟨q, dx, fs, e1, e2⟩ := Zh7 R1 rx hi
        subst e1
        have D := (hL c hc).isi
        exact ⟨.ref q, .ty T, .ref (G.ct c), .type T, false, rfl, .ty T, by rw [hK]; exact .base (.ins e2 (hL c hc).cls D.ca D.cn D.tk D.ob), by rw [hK]; exact (hL c hc).no, h ρ1 H1 _ g1 R1 rfl⟩
      · exact h.elim
section
variable {X : Cx} {CX : CXT} {C g : Addr} {n : Nat} {sp : Sp} {E : XK}
end
section
variable {X : Cx} {G : Gt} {fn : Nat → Str} {CX : CXT} {a b : Expr} {fa fb : EM} {pos : Pos} {c n : Nat} {d : Fn} {f : Addr} {fd : FuncData} {ps : List Str} {E : L2.St → XK}
end
/-! over trees -/
noncomputable def Zle (K : String) (L : List Nat) (a : DE) : DE := fun δ s => (a δ s).bind fun x s1 => match tyT s1 x with
  | some t => .ok (.bl (subT t K)) s1
  | none => if L.any (fun c => isCT c s1 x) = true then .ok (.bl false) s1 else .bad
section
variable {lk : Option Nat}
theorem isC_tyW {μ : Mem} {w : W} {c : Nat} (h : isC c μ w = true) : tyW μ w = none := by
  unfold isC at h
  split at h
  · next c' fs e =>
    cases w with
    | loc l =>
      have e : (match μ[l]? with | some (.ins c xs) => some (c, xs) | _ => none) = some (c', fs) := e
      split at e
      · next q => simp only [tyW, q]
      · cases e
    | _ => cases e
  · cases h
theorem r_isTO {K : String} {L : List Nat} {a : EM} {da : DE} (ha : RE lk a da) : RE lk (e_isTO K L a) (Zle K L da) := fun h sd => (ha h sd).bind fun x s1 w μ1 c1 n1 h1 dx => by
  cases q : tyT s1 x with
  | some k => simp only [q, tyT_at h1 dx q]; exact Zdr h1 (Zgi _)
  | none =>
    simp only [q]
    by_cases hc : L.any (fun c => isCT c s1 x) = true
    · obtain ⟨c, hm, hi⟩ := List.any_eq_true.mp hc
      have e1 := Zho h1 dx hi
      have e3 : L.any (fun c => isC c μ1 w) = true := List.any_eq_true.mpr ⟨c, hm, e1⟩
      simp only [isC_tyW e1]
      rw [if_pos hc, if_pos e3]
      exact Zdr h1 (Zgi _)
    · rw [if_neg hc]; exact True.intro
end
end Vs
/-! repr of what V57 tells, and of a tuple of a text and an empty dict. -/
namespace Vs
open PySem PySem.Spec PyProof.Rows L2
section
variable {X : Cx}
end
section
variable {X : Cx} {G : Gt} {fn : Nat → Str} {EX : XK} {a : Expr} {fa : EM} {pos : Pos}
end
/-! over trees -/
end Vs
/-! != of numbers alone, where a dictionary may be locked. -/
namespace Vs
open PySem L2
end Vs
/-! A property of an own class, read; x & y of two instances of one class. -/
namespace Vs
open PySem PySem.Spec PyProof.Rows L2
section
variable {X : Cx} {CX : CXT} {C g : Addr} {n : Nat} {sp : Sp} {E : XK}
theorem op_andI (m : Meth X.K C (PySem.dunder (Operator.info .BitAnd).2) g) (self : PySem.W.selfFirst X.K C = true) (F : FnR X.prog X.w X.K X.mg X.base CX n g sp) (hr : Room n X.A) (hx : Passes CX X E) : OpR X (binaryOp .BitAnd) (rOwnI C sp E) := by
  intro pins s σ H x y v u Q I rx ry h
  obtain ⟨a, dx, fs, b, dy, gs, rfl, rfl, ha, hb, q⟩ := h
  obtain rfl : v = .ref a := rx
  obtain rfl : u = .ref b := ry
  obtain ⟨_, O, _⟩ := ins_get I.hok ha
  obtain ⟨_, J, _⟩ := O.look
  obtain ⟨_, O2, _⟩ := ins_get I.hok hb
  obtain ⟨_, J2, _⟩ := O2.look
  obtain ⟨cd, hcd, hm⟩ := PySem.W.any_some self
  obtain ⟨rest, hmro⟩ : ∃ rest, cd.mro = .ref C :: rest := by
    cases e : cd.mro with
    | nil => rw [e] at hm; cases hm
    | cons c r => rw [e, List.head?_cons] at hm; cases (beq_iff_eq.mp hm); exact ⟨r, rfl⟩
  have X0 := I.kIn
  unfold binaryOp
  refine wpAny_holding (wpAny_bind ?_)
  unfold binaryOp1
  refine wpAny_bind (J.type.here (wpAny_bind (J2.type.here (wpAny_bind ((PySem.W.fills_K X0 hcd hmro m.at_).here ?_)))))
  rw [if_pos (beq_iff_eq.mpr rfl)]
  refine wpAny_bind (wpAny_pure ?_)
  simp only [Bool.false_and, Bool.and_false, if_false, Bool.false_eq_true]
  refine wpAny_bind (wpAny_pure ?_)
  simp only [if_false, Bool.false_eq_true, if_true]
  refine wpAny_bind (m := tryMethod (.ref a) _ (.ref b)) ?_
  unfold tryMethod
  refine wpAny_bind (PySem.W.special_fn X0 J m.at_ (beq_iff_eq.mp m.fn) (wpAny_mono (wpAny_call (SlX.run_at (us := [.ref a, .ref b]) (ws := [.ref a, .ref b]) F hr I.env0 hx I (.cons rfl (.cons rfl .nil)) q)) (fun w s' ⟨z, H', I', rz, qz⟩ => ?_) fun _ _ x => x))
  have back : PySem.W.CmpBack (EP X pins σ Q) w s' := SlX.cmpback rz ⟨z, H', I', rz, qz⟩
  cases w <;> first | exact back.elim | exact wpAny_pure (wpAny_pure (wpAny_pure back))
end
/-- x & y, both of class c -/
noncomputable def Zjy (c : Nat) (f : Fn) (a b : EM) : EM := e_oeq c f a b
section
variable {X : Cx} {G : Gt} {fn : Nat → Str} {EX : XK} {a b : Expr} {fa fb : EM} {pos : Pos} {c : Nat} {f : Fn} {CX : CXT} {n : Nat} {g : Addr} {fd : FuncData} {ps : List Str}
theorem v_oand (hK : X.K = G.K) (m : Meth G.K (G.ct c) (PySem.dunder (Operator.info .BitAnd).2) g) (self : PySem.W.selfFirst G.K (G.ct c) = true) (F : FnOk X.prog X.w X.K X.mg X.base CX n g fd ps (spF G fn 2 f)) (hb' : Binds X.K fd ps []) (hr : Room n X.A) (hx : Passes CX X EX) (ha : PE X a (tE G fn EX fa)) (hb : PE X b (tE G fn EX fb)) :
    PE X (.BinOp a .BitAnd b pos) (tE G fn EX (Zjy c f fa fb)) := PE.imp (pe_op (op_andI (by rw [hK]; exact m) (by rw [hK]; exact self) (ok_raw F hb') hr hx) ha hb) fun _ _ _ h => i_oeq h
end
/-- o.f, f a property of class c -/
noncomputable def Zf4 (c : Nat) (f : Fn) (o : EM) : EM := fun σ μ => (o σ μ).bind fun x μ1 => if isC c μ1 x = true then f [x] μ1 else .bad
section
variable {X : Cx} {G : Gt} {fn : Nat → Str} {EX : XK} {e : Expr} {fo : EM} {pos : Pos} {c : Nat} {d : Fn} {CX : CXT} {n : Nat} {p g : Addr} {fd : FuncData} {f : Str} {τ : L2.St} {H : Hp} {Q : VK}
theorem i_prop (h : tE G fn EX (Zf4 c d fo) τ H Q) : tProp (G.ct c) (spF G fn 1 d) [] EX (tE G fn EX fo) τ H Q := by
  obtain ⟨ρ, σ, μ, R, S, h⟩ := h
  refine Zc4 R S h fun ρ1 x μ1 v H1 g1 R1 S1 rx h => ?_
  split at h
  · rename_i hc
    obtain ⟨q, dx, fs, e1, e2⟩ := Zh7 R1 rx hc
    exact ⟨q, dx, fs, e1, e2, by subst e1; exact ⟨ρ1, μ1, [x], R1, .cons rx .nil, rfl, Zbv h (fun _ _ z => Post.mono g1 z) fun _ _ _ z => PostX.mono g1 z⟩⟩
  · exact h.elim
theorem Zid (hK : X.K = G.K) (hc : Cls G.K (G.ct c)) (hp : PropOf G.K (G.ct c) f p g) (F : FnOk X.prog X.w X.K X.mg X.base CX n g fd ["self"] (spF G fn 1 d)) (hr : Room (n + 1) X.A) (hb : Binds X.K fd ["self"] []) (hx : Passes CX X.nox EX) (he : PE X e (tE G fn EX fo))
    (hab : attributeBase e f X.env (eval e X.env) = eval e X.env := by rfl) : PE X (.Attribute e f pos) (tE G fn EX (Zf4 c d fo)) :=
  PE.imp (pe_prop he (by rw [hK]; exact hc) (by rw [hK]; exact hp) F hr hb .nil hx hab) fun _ _ _ h => i_prop h
end
/-! over trees -/
noncomputable abbrev x_oand (n : Nat) (f : DFn) (a b : DE) : DE := Zns n f a b
theorem r_oand {n : Nat} {f : Fn} {d : DFn} {a b : EM} {da db : DE} (hf : RF f d) (ha : RE none a da) (hb : RE none b db) : RE none (Zjy n f a b) (x_oand n d da db) := r_oeq hf ha hb
noncomputable def Zgk (n : Nat) (f : DFn) (o : DE) : DE := fun δ s => (o δ s).bind fun x s1 => if isCT n s1 x = true then f [x] s1 else .bad
theorem Zi4 {n : Nat} {f : Fn} {d : DFn} {o : EM} {dk : DE} (hf : RF f d) (ho : RE none o dk) : RE none (Zf4 n f o) (Zgk n d dk) := fun h sd => (ho h sd).bind fun x s1 w μ1 c1 n1 h1 dx => by
  by_cases q : isCT n s1 x = true
  · rw [if_pos q, if_pos (Zho h1 dx q)]
    exact hf rfl h1 (Zdj dx Zev)
  · rw [if_neg q]
    exact True.intro
end Vs
/-! any of a list of truth values; abs of a number. -/
namespace Vs
open PySem L2
section
variable {lk : Option Nat}
end
end Vs
/-! Comprehensions of any number of clauses without tests: one clause's loop, in the middle or the last. -/
namespace Vs
open PySem PySem.Spec PyProof.Rows L2
section
variable {prog : Program} {w : World} {A : Around} {R : Result → Shared → Prop} {s : Shared} {elt t i t1 i1 : Expr} {gens : List Comprehension} {scope : Scope} {pos : Pos} {it acc : Value} {env : Env} {k : Nat}
end
end Vs
/-! What stands behind a clause: further clauses, then the element that is appended. -/
namespace Vs
open PySem PySem.Spec PyProof.Rows L2
section
variable {prog : Program} {w : World} {A : Around} {R : Result → Shared → Prop} {s : Shared} {elt t i : Expr} {gens : List Comprehension} {scope : Scope} {pos : Pos} {it acc : Value} {env : Env} {k : Nat}
end
section
variable {X : Cx} {elt : Expr} {gens : List Comprehension} {scope : Scope} {pos : Pos} {te : TE} {D : Addr}
end
end Vs
/-! Comprehensions of any number of clauses without tests, as values. -/
namespace Vs
open PySem PySem.Spec PyProof.Rows L2
section
variable {X : Cx}
end
end Vs
/-! A comprehension of any number of clauses, as a value: its block is made, its loop runs, the list is handed over. -/
namespace Vs
open PySem PySem.Spec PyProof.Rows L2
section
variable {X : Cx}
end
end Vs
/-! Comprehensions of any number of clauses, over the memory. -/
namespace Vs
open PySem L2
section
variable {G : Gt} {fn : Nat → Str} {EX : XK} {e : EM} {Q : VK} {d : Nat} {D : Addr}
end
end Vs
/-! Comprehensions of three clauses: the rule; any number over trees. -/
namespace Vs
open PySem L2
section
variable {X : Cx} {G : Gt} {fn : Nat → Str} {EX : XK} {elt tg iter tg1 iter1 tg2 iter2 : Expr} {scope : Scope} {own : List (Str × Nat)} {pos : Pos} {I I1 I2 : IM} {g g1 g2 : GM} {fe : EM}
end
/-! ### over trees -/
section
variable {lk : Option Nat}
end
end Vs
/-! Static methods, called by the name of their class and by an instance; by keywords. -/
namespace Vs
open PySem PySem.Spec PyProof.Rows L2
/-- what K says of the static method m of the class C: its object at p, its def at g -/
structure StatAt (K : PySem.W.Frag) (C : Addr) (m : Str) (p g : Addr) : Prop where
  gat : PySem.W.specialIn K (.ref C) "__getattribute__" = some (some (.builtin "type.__getattribute__"))
  typ : PySem.W.typeIn K (.ref C) = some (.type "type")
  rds : PySem.W.readsIn K C (.type "type") = true
  fnd : PySem.W.findCls K (.ref C) (.type "type") m = some (.get (.builtin "staticmethod.__get__") (.ref p) .none (.ref C))
  rec_ : ∃ rest, PySem.W.recIn K p "staticmethod" = some (.ref g :: rest)
  kp : PySem.W.keepIn K (.ref g) = true
  hd : PySem.W.hasDictIn K C = true
  at_ : PySem.W.findIn K (.ref C) m = some (some (.ref p))
  tp : PySem.W.typeIn K (.ref p) = some (.type "staticmethod")
  get : PySem.W.specialIn K (.ref p) "__get__" = some (some (.builtin "staticmethod.__get__"))
  tak : PySem.W.takesIn K (.ref p) = some false
  cpd : PySem.W.copiedNames.contains m = false
noncomputable def StatOf (K : PySem.W.Frag) (C : Addr) (m : Str) (g : Addr) : Prop := ∃ p, StatAt K C m p g
theorem StatOf.kp {K : PySem.W.Frag} {C : Addr} {m : Str} {g : Addr} (Z : StatOf K C m g) : PySem.W.keepIn K (.ref g) = true := let ⟨_, Z⟩ := Z; Z.kp
section
variable {X : Cx} {CX : CXT} {k : Nat} {C g a dx : Addr} {fs : List (Str × V)} {m x : Str} {fd : FuncData} {ps ks : List Str} {sp : Sp} {E : XK} {e o : Expr} {es : List Expr} {pos apos p0 : Pos} {t : TA} {ta : TE} {kws : List Keyword}
end
end Vs
/-! Static methods, read and over trees. -/
namespace Vs
open PySem PySem.Spec PyProof.Rows L2
section
variable {X : Cx} {G : Gt} {fn : Nat → Str} {EX : XK} {o a : Expr} {es : List Expr} {fo : EM} {r : AM} {pos ap p0 : Pos} {c k n : Nat} {CX : CXT} {g : Addr} {fd : FuncData} {ps ks : List Str} {x m : Str} {d : Fn} {τ : L2.St} {H : Hp} {Q : VK} {kws : List Keyword}
end
/-! over trees -/
end Vs
/-! A try over an if whose branches are calls; static methods called in a try. -/
namespace Vs
open PySem PySem.Spec PyProof.Rows L2
section
variable {X : Cx} {G : Gt} {fn : Nat → Str} {E : L2.St → XK} {c a : Expr} {es : List Expr} {bs os : List Stmt} {fc : TM} {fa fb : EM} {pos ap p0 : Pos} {r : AM} {CX : CXT} {k n cc : Nat} {g : Addr} {fd : FuncData} {ps : List Str} {d : Fn} {x m : Str}
end
end Vs
/-! Lists of instances of an own class that are equal by its own ==. -/
namespace Vs
open PySem PySem.Spec PyProof.Rows L2
section
variable {X : Cx} {G : Gt} {fn : Nat → Str} {CX : CXT} {g : Addr} {c n : Nat} {d : Fn} {fd : FuncData} {ps : List Str} {EX : XK}
end
end Vs
/-! Lists of instances that are equal, read and over trees. -/
namespace Vs
open PySem PySem.Spec PyProof.Rows L2
section
variable {X : Cx} {G : Gt} {fn : Nat → Str} {EX : XK} {a b : Expr} {fa fb : EM} {pos : Pos} {c n : Nat} {f : Fn} {CX : CXT} {g : Addr} {fd : FuncData} {ps : List Str} {τ : L2.St} {H : Hp} {Q : VK}
end
/-! over trees -/
end Vs
/-! Three keywords in other orders. -/
namespace Vs
open PySem PySem.Spec PyProof.Rows L2
end Vs
/-! x &= y, both of an own class that has no __iand__. -/
namespace Vs
open PySem PySem.Spec PyProof.Rows L2
section
variable {K : PySem.W.Frag} {C : Addr}
/-- the class and object alone, and none has the name -/
noncomputable def NoIn (K : PySem.W.Frag) (C : Addr) (nm : String) : Prop := (∃ cd, PySem.W.clsIn K C = some cd ∧ cd.mro = [.ref C, .type "object"]) ∧ PySem.W.findIn K (.ref C) (dunderI nm) = some none ∧ PySem.W.findIn K (.type "object") (dunderI nm) = some none
theorem noIn_of {nm : String} (q1 : (match PySem.W.clsIn K C with | some cd => cd.mro == [.ref C, .type "object"] | none => false) = true) (q2 : PySem.W.findIn K (.ref C) (dunderI nm) = some none) (q3 : PySem.W.findIn K (.type "object") (dunderI nm) = some none) : NoIn K C nm := by
  refine ⟨?_, q2, q3⟩
  cases e : PySem.W.clsIn K C with
  | none => rw [e] at q1; cases q1
  | some cd =>
    rw [e] at q1
    exact ⟨cd, rfl, beq_iff_eq.mp q1⟩
theorem nofill {M : Model} {h : Heap} {nm : String} {b : Bool} (X : K.In h) (n : NoIn K C nm) : PySem.W.Looks M h (fillsInplaceSlot (.ref C) nm b) false := by
  obtain ⟨⟨cd, hc, hm⟩, h1, h2⟩ := n
  intro A Q E s k q
  unfold fillsInplaceSlot
  refine wpAny_bind ((PySem.W.looks_clsIn X hc).andThen (f := fun cd => pure cd.mro) .now A _ E s k ?_)
  rw [hm, List.anyM_cons]
  refine wpAny_bind (wpAny_bind (PySem.W.looks_findIn X h1 A _ E s k ?_))
  refine wpAny_pure ?_
  try dsimp only
  rw [List.anyM_cons]
  refine wpAny_bind (wpAny_bind (PySem.W.looks_findIn X h2 A _ E s k ?_))
  refine wpAny_pure ?_
  try dsimp only
  exact wpAny_pure q
end
section
variable {X : Cx} {CX : CXT} {C g : Addr} {n : Nat} {sp : Sp} {E : XK}
theorem iop_andI (ni : NoIn X.K C (Operator.info .BitAnd).2) (m : Meth X.K C (PySem.dunder (Operator.info .BitAnd).2) g) (self : PySem.W.selfFirst X.K C = true) (F : FnR X.prog X.w X.K X.mg X.base CX n g sp) (hr : Room n X.A) (hx : Passes CX X E) : OpR X (inplaceOp .BitAnd) (rOwnI C sp E) := by
  intro pins s σ H x y v u Q I rx ry h
  obtain ⟨a, dx, fs, b, dy, gs, rfl, rfl, ha, hb, q⟩ := h
  obtain rfl : v = .ref a := rx
  obtain rfl : u = .ref b := ry
  obtain ⟨_, O, _⟩ := ins_get I.hok ha
  obtain ⟨_, J, _⟩ := O.look
  obtain ⟨_, O2, _⟩ := ins_get I.hok hb
  obtain ⟨_, J2, _⟩ := O2.look
  obtain ⟨cd, hcd, hm⟩ := PySem.W.any_some self
  obtain ⟨rest, hmro⟩ : ∃ rest, cd.mro = .ref C :: rest := by
    cases e : cd.mro with
    | nil => rw [e] at hm; cases hm
    | cons c r => rw [e, List.head?_cons] at hm; cases (beq_iff_eq.mp hm); exact ⟨r, rfl⟩
  have X0 := I.kIn
  unfold inplaceOp
  refine wpAny_holding (wpAny_bind (J.type.here (wpAny_bind ((nofill X0 ni).here ?_))))
  simp only [Bool.false_eq_true, if_false]
  refine wpAny_bind ?_
  unfold binaryOp1
  refine wpAny_bind (J.type.here (wpAny_bind (J2.type.here (wpAny_bind ((PySem.W.fills_K X0 hcd hmro m.at_).here ?_)))))
  rw [if_pos (beq_iff_eq.mpr rfl)]
  refine wpAny_bind (wpAny_pure ?_)
  simp only [Bool.false_and, Bool.and_false, if_false, Bool.false_eq_true]
  refine wpAny_bind (wpAny_pure ?_)
  simp only [if_false, Bool.false_eq_true, if_true]
  refine wpAny_bind (m := tryMethod (.ref a) _ (.ref b)) ?_
  unfold tryMethod
  refine wpAny_bind (PySem.W.special_fn X0 J m.at_ (beq_iff_eq.mp m.fn) (wpAny_mono (wpAny_call (SlX.run_at (us := [.ref a, .ref b]) (ws := [.ref a, .ref b]) F hr I.env0 hx I (.cons rfl (.cons rfl .nil)) q)) (fun w s' ⟨z, H', I', rz, qz⟩ => ?_) fun _ _ x => x))
  have back : PySem.W.CmpBack (EP X pins σ Q) w s' := SlX.cmpback rz ⟨z, H', I', rz, qz⟩
  cases w <;> first | exact back.elim | exact wpAny_pure (wpAny_pure (wpAny_pure back))
end
section
variable {X : Cx} {G : Gt} {fn : Nat → Str} {EX : XK} {b : Expr} {fb : EM} {pos : Pos} {c : Nat} {f : Fn} {CX : CXT} {n : Nat} {g : Addr} {fd : FuncData} {ps : List Str} {D : Ends} {τ : L2.St} {H : Hp}
theorem i_augI {i : Nat} (h : tS G fn EX (Zes (Zjy c f (Zah i) fb) (g_n i)) D τ H) : tAug i (tE G fn EX fb) (rOwnI (G.ct c) (spF G fn 2 f) EX) D τ H := by
  obtain ⟨ρ, σ, μ, R, S, h⟩ := h
  have h := wpR_bind.mp h
  unfold Zjy e_oeq Zah at h
  cases e : σ[i]? with
  | none => rw [e] at h; exact h.elim
  | some o =>
    cases o with
    | none => rw [e] at h; exact h.elim
    | some x =>
      rw [e] at h
      obtain ⟨v, e1, rx⟩ := rs_get S e
      refine ⟨v, e1, Zc4 R S h fun ρ2 y μ2 u H2 g2 R2 S2 ry h => ?_⟩
      split at h
      · rename_i hc
        obtain ⟨h1, h2⟩ := Bool.and_eq_true_iff.mp hc
        obtain ⟨p, dx, fs, e1, e2⟩ := Zh7 R2 (RV.mono g2 rx) h1
        obtain ⟨q, dy, gs, e3, e4⟩ := Zh7 R2 ry h2
        exact ⟨p, dx, fs, q, dy, gs, e1, e3, e2, e4, ρ2, μ2, [x, y], R2, .cons (RV.mono g2 rx) (.cons ry .nil), rfl, Zbv h (fun w m z ρ3 H3 v3 g3 R3 r3 => z ρ3 H3 (g2.trans g3) R3 _ (Zhl (w := some w) (v := some v3) r3 i (RS.mono g3 S2))) fun _ _ _ z => PostX.mono g2 z⟩
      · exact h.elim
theorem vs_augI (i : Nat) {x : Str} {p : Pos} (hN : X.N.Nodup) (hK : X.K = G.K) (ni : NoIn G.K (G.ct c) (Operator.info .BitAnd).2) (m : Meth G.K (G.ct c) (PySem.dunder (Operator.info .BitAnd).2) g) (self : PySem.W.selfFirst G.K (G.ct c) = true) (F : FnOk X.prog X.w X.K X.mg X.base CX n g fd ps (spF G fn 2 f)) (hb' : Binds X.K fd ps []) (hr : Room n X.A) (hx : Passes CX X EX) (hb : PE X b (tE G fn EX fb))
    (hi : X.N[i]? = some x := by rfl) (hx' : Loc X.env.scope x := by first | exact Or.inl rfl | exact Or.inr rfl) (hf : X.fn x = true ∨ X.env.scope.names.lookup x = some .local := by first | exact .inl rfl | exact .inr rfl) :
    PS X (.AugAssign (.Name x p) .BitAnd b pos) (tS G fn EX (Zes (Zjy c f (Zah i) fb) (g_n i))) :=
  PS.imp (ps_aug hN hi hx' hb (iop_andI (by rw [hK]; exact ni) (by rw [hK]; exact m) (by rw [hK]; exact self) (ok_raw F hb') hr hx) hf) fun _ _ _ h => i_augI h
end
end Vs
/-! x == y, x != y of an instance and a list. -/
namespace Vs
open PySem PySem.Spec PyProof.Rows L2
section
variable {X : Cx} {CX : CXT} {C g : Addr} {n : Nat} {sp : Sp} {E : XK}
noncomputable def NotSub (K : PySem.W.Frag) (C : Addr) : Prop := PySem.W.notFirst K C (.type "list") = true
theorem list_type {pins : List (Addr × Obj)} {σ : L2.St} {H : Hp} {s : Shared} {b : Addr} {ys : List V} (I : Inv X pins σ H s) (hb : SqL X.K H b ys) : PySem.W.Looks (model X.prog X.w) s.heap (typeOf (.ref b)) (.type "list") := by
  obtain ⟨its, r, pl, hz⟩ := I.list hb
  have ty : s.TypeIs (.ref b) "list" := pl.isList.typeIs
  obtain ⟨o, ho, hc⟩ := ty
  exact hc ▸ (PySem.W.Looks.ld ho).andThen .now
theorem op_eqL (ns : NotSub X.K C) (m : Meth X.K C "__eq__" g) (F : FnR X.prog X.w X.K X.mg X.base CX n g sp) (hr : Room n X.A) (hx : Passes CX X E) : OpR X (compareOp .Eq) (rOwnL X.K C sp E) := by
  intro pins s σ H x y v u Q I rx ry h
  obtain ⟨a, dx, fs, b, ys, rfl, rfl, ha, hb, q⟩ := h
  obtain rfl : v = .ref a := rx
  obtain rfl : u = .ref b := ry
  obtain ⟨_, O, _⟩ := ins_get I.hok ha
  obtain ⟨_, J, _⟩ := O.look
  have ty := list_type I hb
  obtain ⟨mf, hF⟩ := I.fr
  refine PySem.W.cmp_K (op := .Eq) (tb := .type "list") hr.units0 hF I.ok.mod.kin J ty ns m.at_ m.fn ?_
  refine wpAny_mono (wpAny_call (SlX.run_at (us := [.ref a, .ref b]) (ws := [.ref a, .ref b]) F hr I.env0 hx I (.cons rfl (.cons rfl .nil)) q)) (fun w s' ⟨z, H', I', rz, qz⟩ => SlX.cmpback rz ⟨z, H', I', rz, qz⟩) fun _ _ x => x
theorem op_neL (ns : NotSub X.K C) (N : Neq X.K C) (m : Meth X.K C "__eq__" g) (F : FnR X.prog X.w X.K X.mg X.base CX n g sp) (hr : Room (n + 1) X.A) (hx : Passes CX X E) :
    OpR X (compareOp .NotEq) (fun x y H Q => rOwnL X.K C sp E x y H fun z H' => ∃ b, z = .bl b ∧ Q (.bl (!b)) H') := by
  intro pins s σ H x y v u Q I rx ry h
  obtain ⟨a, dx, fs, b, ys, rfl, rfl, ha, hb, q⟩ := h
  obtain rfl : v = .ref a := rx
  obtain rfl : u = .ref b := ry
  obtain ⟨_, O, _⟩ := ins_get I.hok ha
  obtain ⟨_, J, _⟩ := O.look
  have ty := list_type I hb
  have hu : X.A.units < cLine := hr.units0
  have hr1 : Room n X.A.in1 := Room.in1 hr
  have body : wpAny (model X.prog X.w) X.A.in1 (Builtin.«object.__ne__» ⟨[.ref a, .ref b], []⟩) (fun fin s' => ∃ b, fin = .done (.ret (.bool b)) ∧ EP X pins σ Q (.bool b) s') X.xe s := by
    unfold Builtin.«object.__ne__»
    have inner : wpAny (model X.prog X.w) X.A.in1 (callSpecialIfBound? (.ref a) "__eq__" [.ref b]) (fun r s' => ∃ k, r = some (.bool k) ∧ EP X pins σ Q (.bool (!k)) s') X.xe s := by
      refine PySem.W.ifBound_K I.kIn J m.at_ m.fn (wpAny_mono (wpAny_call (SlX.run_at (us := [.ref a, .ref b]) (ws := [.ref a, .ref b]) F hr1 I.env0.in1 hx I (.cons rfl (.cons rfl .nil)) q)) (fun w s' ⟨z, H', I', rz, k, ek, qz⟩ => ?_) fun _ _ x => x)
      subst ek
      obtain rfl : w = .bool k := rz
      exact ⟨k, rfl, .bl (!k), H', I', rfl, qz⟩
    repeat (first | with_reducible refine wpAny_cRoomFor hr1.units0 ?_ | with_reducible refine wpAny_mono inner (fun r s' ⟨k, er, qk⟩ => ?_) (fun _ _ x => x) | wp_step)
    subst er
    refine wpAny_bind (wpAny_pure ?_)
    exact wpAny_pure ⟨!k, rfl, qk⟩
  have one : wpAny (model X.prog X.w) X.A (tryCompare (.ref a) "__ne__" (.ref b)) (fun r s' => ∃ k, r = some (.bool k) ∧ EP X pins σ Q (.bool k) s') X.xe s := by
    have S := PySem.F.slot_object_ne
    have run : wpAny (model X.prog X.w) X.A (call (.builtin "object.__ne__") [.ref a, .ref b]) (fun r s' => ∃ k, r = .bool k ∧ EP X pins σ Q (.bool k) s') X.xe s :=
      wpAny_call (codeAny_call_builtin S.plain PySem.F.cmpEntry_ne (PySem.W.check_slot PySem.F.cmpKind_ne PySem.F.cmpSplit_ne (J.type.andThen (PySem.W.looks_subIn I.kIn N.ob)) (PySem.F.cmpArgs_ne _ _) (wpAny_mono body (fun fin s' ⟨k, ef, qk⟩ => by subst ef; exact ⟨k, rfl, qk⟩) fun _ _ x => x)))
    unfold tryCompare
    refine wpAny_bind ?_
    simp only [callSpecialIfBound?, bindSpecialIfBound?]
    refine wpAny_holding (wpAny_bind (wpAny_bind (wpAny_bind (J.type.here ((PySem.W.looks_findIn I.kIn N.ne).here ?_)))))
    simp only [S.bind]
    refine wpAny_bind (wpAny_askSetting (wpAny_ite ?_))
    have fin : wpAny (model X.prog X.w) X.A (call (.builtin "object.__ne__") ([.ref a] ++ [.ref b]) >>= fun v => pure (some v)) (fun a s' => wpAny (model X.prog X.w) X.A (match a with | some Value.notImplemented => pure none | none => pure none | some v => pure (some v)) (fun r s' => ∃ k, r = some (Value.bool k) ∧ EP X pins σ Q (Value.bool k) s') X.xe s') X.xe s :=
      wpAny_bind (wpAny_mono run (fun r s' ⟨k, er, qk⟩ => by subst er; exact wpAny_pure (wpAny_pure ⟨k, rfl, qk⟩)) fun _ _ x => x)
    split
    · exact wpAny_bind (wpAny_pure (wpAny_pure fin))
    · exact wpAny_tryCatch (wpAny_bind (wpAny_pure (wpAny_pure fin)))
  show wpAny _ _ (richCompare .NotEq (.ref a) (.ref b)) _ _ _
  unfold richCompare
  simp only [oneThing_ref]
  refine wpAny_holding (wpAny_bind (wpAny_cRoomFor hu (wpAny_bind (J.type.here (wpAny_bind (ty.here ?_))))))
  have e0 : PySem.W.subIn X.K (.type "list") (.ref C) = some false := by
    rcases Bool.or_eq_true_iff.mp ns with e | e
    · cases (beq_iff_eq.mp e)
    · exact beq_iff_eq.mp e
  split
  · refine wpAny_bind ((PySem.W.looks_subIn I.kIn e0).here ?_)
    simp only [Bool.false_eq_true, if_false]
    exact wpAny_bind (wpAny_mono one (fun r s' ⟨k, er, qk⟩ => by subst er; exact wpAny_pure qk) fun _ _ x => x)
  · refine wpAny_bind (wpAny_pure ?_)
    simp only [Bool.false_eq_true, if_false]
    exact wpAny_bind (wpAny_mono one (fun r s' ⟨k, er, qk⟩ => by subst er; exact wpAny_pure qk) fun _ _ x => x)
end
/-- x == y, x != y, x of class c, y a list -/
noncomputable abbrev e_oeqL (c : Nat) (f : Fn) (a b : EM) : EM := e_oadd c f a b
noncomputable def e_oneL (c : Nat) (f : Fn) (a b : EM) : EM := fun σ μ => (a σ μ).bind fun x μ1 => (b σ μ1).bind fun y μ2 => if (isC c μ2 x && (getR μ2 y).isSome) = true then (f [x, y] μ2).bind fun z μ3 => match z with
    | .bl k => .ok (.bl (!k)) μ3
    | _ => .bad
  else .bad
section
variable {X : Cx} {G : Gt} {fn : Nat → Str} {EX : XK} {a b : Expr} {fa fb : EM} {pos : Pos} {c : Nat} {f : Fn} {CX : CXT} {n : Nat} {g : Addr} {fd : FuncData} {ps : List Str} {τ : L2.St} {H : Hp} {Q : VK}
theorem i_oneL (h : tE G fn EX (e_oneL c f fa fb) τ H Q) : tOp (fun x y H Q => rOwnL G.K (G.ct c) (spF G fn 2 f) EX x y H fun z H' => ∃ k, z = .bl k ∧ Q (.bl (!k)) H') (tE G fn EX fa) (tE G fn EX fb) τ H Q := by
  obtain ⟨ρ, σ, μ, R, S, h⟩ := h
  refine Zc4 R S h fun ρ1 x μ1 v H1 g1 R1 S1 rx h => ?_
  refine Zc4 R1 S1 (Zbv h (fun _ _ z => z) fun _ _ _ z => PostX.mono g1 z) fun ρ2 y μ2 u H2 g2 R2 S2 ry h => ?_
  split at h
  · rename_i hc
    obtain ⟨h1, h2⟩ := Bool.and_eq_true_iff.mp hc
    obtain ⟨p, dx, fs, e1, e2⟩ := Zh7 R2 (RV.mono g2 rx) h1
    obtain ⟨ws, e5⟩ := Option.isSome_iff_exists.mp h2
    obtain ⟨l, q, us, _, e3, _, e4, _⟩ := Zgv R2 ry e5
    refine ⟨p, dx, fs, q, us, e1, e3, e2, e4, ρ2, μ2, [x, y], R2, .cons (RV.mono g2 rx) (.cons ry .nil), rfl, Zbv (wpR_bind.mp h) (fun z μ3 hz ρ3 H3 v3 g3 R3 r3 => ?_) fun _ _ _ z => PostX.mono g2 z⟩
    split at hz
    · rename_i k
      exact ⟨k, r3, hz ρ3 H3 _ ((g1.trans g2).trans g3) R3 rfl⟩
    · exact hz.elim
  · exact h.elim
theorem w_oeqL (hK : X.K = G.K) (ns : NotSub G.K (G.ct c)) (m : Meth G.K (G.ct c) "__eq__" g) (F : FnOk X.prog X.w X.K X.mg X.base CX n g fd ps (spF G fn 2 f)) (hb' : Binds X.K fd ps []) (hr : Room n X.A) (hx : Passes CX X EX) (ha : PE X a (tE G fn EX fa)) (hb : PE X b (tE G fn EX fb)) (hm : behindInMarks .Eq b = false := by first | exact nobehind _ (by decide) (by decide) | rfl) :
    PT X (.Compare a [.Eq] [b] pos) (tT G fn EX (Zgn (e_oeqL c f fa fb))) := w_own (op_eqL (by rw [hK]; exact ns) (by rw [hK]; exact m) (ok_raw F hb') hr hx) (fun h => by rw [hK]; exact i_oadd h) ha hb hm
theorem w_oneL (hK : X.K = G.K) (ns : NotSub G.K (G.ct c)) (N : Neq G.K (G.ct c)) (m : Meth G.K (G.ct c) "__eq__" g) (F : FnOk X.prog X.w X.K X.mg X.base CX n g fd ps (spF G fn 2 f)) (hb' : Binds X.K fd ps []) (hr : Room (n + 1) X.A) (hx : Passes CX X EX) (ha : PE X a (tE G fn EX fa)) (hb : PE X b (tE G fn EX fb)) (hm : behindInMarks .NotEq b = false := by first | exact nobehind _ (by decide) (by decide) | rfl) :
    PT X (.Compare a [.NotEq] [b] pos) (tT G fn EX (Zgn (e_oneL c f fa fb))) := w_own (op_neL (by rw [hK]; exact ns) (by rw [hK]; exact N) (by rw [hK]; exact m) (ok_raw F hb') hr hx) (fun h => by rw [hK]; exact i_oneL h) ha hb hm
end
/-! over trees -/
noncomputable abbrev x_oeqL (n : Nat) (f : DFn) (a b : DE) : DE := x_oadd n f a b
noncomputable def x_oneL (n : Nat) (f : DFn) (a b : DE) : DE := fun δ s => (a δ s).bind fun x s1 => (b δ s1).bind fun y s2 => if (isCT n s2 x && (lstT s2 y).isSome) = true then (f [x, y] s2).bind fun z s3 => match z with
    | .bl k => .ok (.bl (!k)) s3
    | _ => .bad
  else .bad
section
variable {n : Nat} {f : Fn} {d : DFn} {a b : EM} {da db : DE}
theorem r_oeqL (hf : RF f d) (ha : RE none a da) (hb : RE none b db) : RE none (e_oeqL n f a b) (x_oeqL n d da db) := r_oadd hf ha hb
theorem r_oneL (hf : RF f d) (ha : RE none a da) (hb : RE none b db) : RE none (e_oneL n f a b) (x_oneL n d da db) := fun h sd => (ha h sd).bind fun x s1 w μ1 c1 n1 h1 dx => (hb h1 (sd.mono n1)).bind fun y s2 v μ2 c2 n2 h2 dy => by
  by_cases q : (isCT n s2 x && (lstT s2 y).isSome) = true
  · obtain ⟨q1, q2⟩ := Bool.and_eq_true_iff.mp q
    have e1 := Zho h2 (dx.mono n2) q1
    obtain ⟨ts, e2⟩ := Option.isSome_iff_exists.mp q2
    obtain ⟨l, ws, rfl, p, r⟩ := Zki h2 dy e2
    rw [if_pos q, if_pos (by simp [e1, getR, p])]
    refine (hf rfl h2 (Zdj (dx.mono n2) (Zdj dy Zev))).bind fun z s3 u μ3 c3 n3 h3 dz => ?_
    cases z with
    | bl k => obtain rfl := Zjf dz; exact Zdr h3 (Zgi _)
    | _ => exact True.intro
  · rw [if_neg q]
    exact True.intro
end
end Vs
namespace Pr
open PySem L2 Vs
noncomputable def topS (i : Nat) : Stmt := PySem.Challenge.pw_laterthemes_k20_claims_made.main.body.getD i (.Pass ⟨0, 0, 0, 0⟩)
noncomputable abbrev st_is_name : Stmt := topS 7
noncomputable abbrev N_is_name : List Str := ["x"]
noncomputable abbrev st_is_whole : Stmt := topS 6
noncomputable abbrev N_is_whole : List Str := ["x"]
noncomputable abbrev st_is_zero : Stmt := topS 9
noncomputable abbrev N_is_zero : List Str := ["x"]
noncomputable abbrev st_is_end : Stmt := topS 10
noncomputable abbrev N_is_end : List Str := ["x"]
noncomputable abbrev st_is_fact : Stmt := topS 11
noncomputable abbrev N_is_fact : List Str := ["x"]
noncomputable abbrev st_is_conflict : Stmt := topS 12
noncomputable abbrev Zj5 : List Str := ["x", "part"]
noncomputable abbrev st_are_conflicts : Stmt := topS 13
noncomputable abbrev Zh4 : List Str := ["x", "part"]
noncomputable abbrev Zdb : Stmt := inClass (topS 15) 0
noncomputable abbrev Zin : List Str := ["self", "conflicts", "conflict"]
noncomputable abbrev st__law_refused : Stmt := topS 28
noncomputable abbrev Znr : List Str := ["_law_groups", "_law_caught", "error"]
noncomputable abbrev st__law_purse : Stmt := topS 18
noncomputable abbrev N__law_purse : List Str := ["_law_script", "_law_at", "_law_cell"]
noncomputable abbrev st__law_mixed : Stmt := topS 19
noncomputable abbrev N__law_mixed : List Str := ["_law_seed", "_law_step", "_law_found"]
noncomputable abbrev st__law_draw : Stmt := topS 20
noncomputable abbrev N__law_draw : List Str := ["_law_purse_here", "_law_many", "_law_drawn", "_law_found", "_law_piece"]
noncomputable abbrev st__law_name : Stmt := topS 22
noncomputable abbrev Zji : List Str := ["_law_purse_here", "_law_names", "_law_letters", "_law_word", "_law_turn", "_law_forms", "_law_words", "_law_letter", "_law_made"]
noncomputable abbrev st__law_number : Stmt := topS 21
noncomputable abbrev N__law_number : List Str := ["_law_purse_here", "_law_wide"]
noncomputable abbrev st__law_facts : Stmt := topS 23
noncomputable abbrev N__law_facts : List Str := ["_law_purse_here", "_law_ends", "_law_found", "_law_turn", "_law_facts_here", "_law_step", "_law_one", "_law_other"]
noncomputable abbrev st__law_copied : Stmt := topS 24
noncomputable abbrev Zjm : List Str := ["_law_groups", "_law_facts_here"]
noncomputable abbrev Zcf : Stmt := inClass (topS 15) 1
noncomputable abbrev Zhi : List Str := ["self", "conflict"]
noncomputable abbrev st__law_spoil : Stmt := topS 25
noncomputable abbrev N__law_spoil : List Str := ["_law_groups", "_law_facts_here"]
noncomputable abbrev Zeo : Stmt := inClass (topS 15) 3
noncomputable abbrev N_Claim_eq : List Str := ["self", "other"]
noncomputable abbrev st_require_claim : Stmt := topS 16
noncomputable abbrev Zni : List Str := ["claim"]
noncomputable abbrev Zel : Stmt := inClass (topS 15) 2
noncomputable abbrev N_Claim_and : List Str := ["self", "other"]
noncomputable abbrev st__law_joined : Stmt := topS 29
noncomputable abbrev N__law_joined : List Str := ["_law_claim", "_law_second", "_law_due", "_law_other", "_law_both", "_law_held"]
noncomputable abbrev st__law_odd_fact : Stmt := topS 26
noncomputable abbrev Zmw : List Str := ["_law_purse_here", "_law_fact", "_law_odd", "_law_number_here", "_law_odds"]
noncomputable abbrev st__law_spoilt : Stmt := topS 27
noncomputable abbrev N__law_spoilt : List Str := ["_law_purse_here", "_law_groups", "_law_spare", "_law_rows", "_law_at", "_law_facts_here", "_law_place", "_law_bad"]
noncomputable abbrev st_law : Stmt := topS 30
noncomputable abbrev N_law : List Str := ["_law_script", "_law_caught", "error", "_law_odd", "_law_cell", "_law_purse_here", "_law_ends", "_law_turn", "_law_due", "_law_other", "_law_given", "_law_claim", "_law_second"]
structure Df (K : PySem.W.Frag) (mg : Str → Option Value) (x qual : Str) (st : Stmt) (f : Addr) (fd : FuncData) (ps : List Str) : Prop where
  fn : Fun K x qual st f fd
  mg : mg x = some (.ref f)
  bd : Binds K fd ps []
structure Dm (K : PySem.W.Frag) (x qual : Str) (st : Stmt) (f : Addr) (fd : FuncData) (ps : List Str) : Prop where
  fn : Fun K x qual st f fd
  bd : Binds K fd ps []
structure ErrT (K : PySem.W.Frag) (mg : Str → Option Value) (x qual f : Str) (st : Stmt) (C fI : Addr) (fd : FuncData) : Prop where
  er : ErrC K mg x f C fI fd
  fn : FunD K "__init__" qual (defArgs st) (defBody st) (defScope st) [.non] [] fI fd
noncomputable abbrev Zdh : Stmt := inClass (topS 3) 0
theorem xfc_of {K : PySem.W.Frag} {C : Addr} (h : ExcC K C) : XfC K C := ⟨h.hg, h.hk, h.hs, h.hd⟩
structure Top (K : PySem.W.Frag) (mg : Str → Option Value) (ad : Nat → Addr) (fdd : Nat → FuncData) (ct : Nat → Addr) : Prop where
  d_is_name : Df K mg "is_name" "is_name" st_is_name (ad 0) (fdd 0) ["x"]
  d_is_whole : Df K mg "is_whole" "is_whole" st_is_whole (ad 1) (fdd 1) ["x"]
  d_is_zero : Df K mg "is_zero" "is_zero" st_is_zero (ad 2) (fdd 2) ["x"]
  d_is_end : Df K mg "is_end" "is_end" st_is_end (ad 3) (fdd 3) ["x"]
  d_is_fact : Df K mg "is_fact" "is_fact" st_is_fact (ad 4) (fdd 4) ["x"]
  d_is_conflict : Df K mg "is_conflict" "is_conflict" st_is_conflict (ad 5) (fdd 5) ["x"]
  d_are_conflicts : Df K mg "are_conflicts" "are_conflicts" st_are_conflicts (ad 6) (fdd 6) ["x"]
  d_Claim_init : Dm K "__init__" "Claim.__init__" Zdb (ad 7) (fdd 7) ["self", "conflicts"]
  d__law_refused : Df K mg "_law_refused" "_law_refused" st__law_refused (ad 8) (fdd 8) ["_law_groups"]
  d__law_purse : Df K mg "_law_purse" "_law_purse" st__law_purse (ad 9) (fdd 9) ["_law_script", "_law_at"]
  d__law_mixed : Df K mg "_law_mixed" "_law_mixed" st__law_mixed (ad 10) (fdd 10) ["_law_seed", "_law_step"]
  d__law_draw : Df K mg "_law_draw" "_law_draw" st__law_draw (ad 11) (fdd 11) ["_law_purse_here", "_law_many"]
  d__law_name : Df K mg "_law_name" "_law_name" st__law_name (ad 12) (fdd 12) ["_law_purse_here", "_law_names"]
  d__law_number : Df K mg "_law_number" "_law_number" st__law_number (ad 13) (fdd 13) ["_law_purse_here"]
  d__law_facts : Df K mg "_law_facts" "_law_facts" st__law_facts (ad 14) (fdd 14) ["_law_purse_here", "_law_ends"]
  d__law_copied : Df K mg "_law_copied" "_law_copied" st__law_copied (ad 15) (fdd 15) ["_law_groups"]
  d_Claim_conflicts : Dm K "conflicts" "Claim.conflicts" Zcf (ad 16) (fdd 16) ["self"]
  d__law_spoil : Df K mg "_law_spoil" "_law_spoil" st__law_spoil (ad 17) (fdd 17) ["_law_groups"]
  d_Claim_eq : Dm K "__eq__" "Claim.__eq__" Zeo (ad 18) (fdd 18) ["self", "other"]
  d_require_claim : Df K mg "require_claim" "require_claim" st_require_claim (ad 19) (fdd 19) ["claim"]
  d_Claim_and : Dm K "__and__" "Claim.__and__" Zel (ad 20) (fdd 20) ["self", "other"]
  d__law_joined : Df K mg "_law_joined" "_law_joined" st__law_joined (ad 21) (fdd 21) ["_law_claim", "_law_second", "_law_due", "_law_other"]
  d__law_odd_fact : Df K mg "_law_odd_fact" "_law_odd_fact" st__law_odd_fact (ad 22) (fdd 22) ["_law_purse_here", "_law_fact"]
  d__law_spoilt : Df K mg "_law_spoilt" "_law_spoilt" st__law_spoilt (ad 23) (fdd 23) ["_law_purse_here", "_law_groups"]
  d_law : Df K mg "law" "law" st_law (ad 24) (fdd 24) ["_law_script"]
  er_InvalidClaim : ErrT K mg "InvalidClaim" "InvalidClaim.__init__" "value" Zdh (ct 11) (ad 25) (fdd 25)
  no_InvalidClaim : ∀ t ∈ (["NoneType", "bool", "int", "str", "list", "tuple", "dict"] : List String), PySem.W.kitOne K (.type t) (.ref (ct 11)) = some false
  kx_InvalidClaim : ∀ k ∈ [11], PySem.W.kitOne K (.ref (ct k)) (.ref (ct 11)) = some (decide (k = 11))
  exs : ∀ k ∈ [11], ExcC K (ct k)
  mg_ThemeError : mg "ThemeError" = some (.ref (ct 50))
  exm : ∀ k ∈ [11], PySem.W.exmOne K (.ref (ct k)) (.ref (ct 50)) = some true
  n_all : mg "all" = none
  n_bool : mg "bool" = none
  n_int : mg "int" = none
  n_isinstance : mg "isinstance" = none
  n_len : mg "len" = none
  n_list : mg "list" = none
  n_max : mg "max" = none
  n_range : mg "range" = none
  n_repr : mg "repr" = none
  n_str : mg "str" = none
  n_sum : mg "sum" = none
  n_tuple : mg "tuple" = none
  c_LONGEST_NAME : ∃ t, mg "LONGEST_NAME" = some (.int 10 t)
  cls_Claim : Cls K (ct 7)
  isi_Claim : Isi K (ct 7)
  na_conflicts : NoAttr K (ct 7) "_conflicts"
  mg_Claim : mg "Claim" = some (.ref (ct 7))
  mk_Claim : Mk K (ct 7) (ad 7)
  self_Claim : PySem.W.selfFirst K (ct 7) = true
  noT_list : ∀ c ∈ [7], NoT K "list" (ct c)
  noin_Claim : NoIn K (ct 7) (Operator.info .BitAnd).2
  nsub_Claim : NotSub K (ct 7)
  pr_Claim_conflicts : PropOf K (ct 7) "conflicts" (ad 26) (ad 16)
  me_Claim_eq : Meth K (ct 7) "__eq__" (ad 18)
  neq_Claim : Neq K (ct 7)
  me_Claim_and : Meth K (ct 7) (PySem.dunder (Operator.info .BitAnd).2) (ad 20)
section
variable {P : Program} {w : World} {K : PySem.W.Frag} {mg : Str → Option Value} {base : Heap} {ad : Nat → Addr} {fdd : Nat → FuncData} {ct : Nat → Addr} {fn : Nat → Str}
theorem Zm4 (T : Top K mg ad fdd ct) : FnOk P w K mg base CX0 1 (ad 25) (fdd 25) ["self", "value"] (spInit K (ct 11) "value") :=
  ok_err T.er_InvalidClaim.fn ⟨rfl, rfl, rfl, by decide +kernel, rfl, by decide +kernel, by decide +kernel⟩ fun cdv A outer s H E => pss_one (ps_ost (pe_var rfl (.inl rfl)) (pe_var rfl (.inl rfl)))
theorem sc_is_name : FnScope N_is_name ["x"] (defScope st_is_name) := ⟨rfl, rfl, rfl, by decide +kernel, rfl, by decide +kernel, by decide +kernel⟩
noncomputable def d_is_name : Fn := fnOf 1 (Zcg (s_if (t_or (Zib (Zhz (Zny "str" (Zah 0)))) (Zgn (Za2 pGt (e_cb pLen (Zac (Zah 0) a_nil)) (e_c (.int 10))))) (Zet (e_c (.bl false))) Ze4) (Zet (Ziw (e_bm0 isS (mStr fun z => .bl (Txt.isascii z)) (Zah 0)) (Ziw (e_bm0 isS (mStr fun z => .bl (Txt.isalpha z)) (Zah 0)) (e_bm0 isS (mStr fun z => .bl (Txt.islower z)) (Zah 0))))))
theorem ok_is_name (T : Top K mg ad fdd ct) : FnOk P w K mg base CX0 1 (ad 0) (fdd 0) ["x"] (spF ⟨K, ct, w⟩ FN 1 d_is_name) :=
  Zg1 rfl T.d_is_name.fn sc_is_name fun cdv A outer s H E hr => (Za1 (Zif (PW.pt (ww_or (w_not (Zn5 rfl (v_isT rfl kit_str rfl T.n_isinstance rfl T.n_str (by decide +kernel) (Zak 0)))) (ww_or1 (Zkq op_gt ops_gt (Zfq c_len Zhv rfl T.n_len (by decide +kernel) (Zab (Zak 0) Zam)) (v_gint rfl T.c_LONGEST_NAME))))) (Zdc (Zee v_bl)) Zga) (Zdc (Zee (Zk3 (v_bm0 rfl PySem.F.plainAttrs_str PySem.F.slot_str_isascii PySem.F.type_str_isascii mt_isascii chk_str mts_isascii (Zak 0)) (Zk3 (v_bm0 rfl PySem.F.plainAttrs_str PySem.F.slot_str_isalpha PySem.F.type_str_isalpha mt_isalpha chk_str mts_isalpha (Zak 0)) (v_one (v_bm0 rfl PySem.F.plainAttrs_str PySem.F.slot_str_islower PySem.F.type_str_islower mt_islower chk_str mts_islower (Zak 0))))))))
theorem sc_is_whole : FnScope N_is_whole ["x"] (defScope st_is_whole) := ⟨rfl, rfl, rfl, by decide +kernel, rfl, by decide +kernel, by decide +kernel⟩
noncomputable def d_is_whole : Fn := fnOf 1 (Zet (Ziw (Zny "int" (Zah 0)) (e_not (Zny "bool" (Zah 0)))))
theorem Znc (T : Top K mg ad fdd ct) : FnOk P w K mg base CX0 1 (ad 1) (fdd 1) ["x"] (spF ⟨K, ct, w⟩ FN 1 d_is_whole) :=
  Zg1 rfl T.d_is_whole.fn sc_is_whole fun cdv A outer s H E hr => (Zdc (Zee (Zk3 (v_isT rfl kit_int rfl T.n_isinstance rfl T.n_int (by decide +kernel) (Zak 0)) (v_one (v_not (v_isT rfl kit_bool rfl T.n_isinstance rfl T.n_bool (by decide +kernel) (Zak 0)))))))
theorem sc_is_zero : FnScope N_is_zero ["x"] (defScope st_is_zero) := ⟨rfl, rfl, rfl, by decide +kernel, rfl, by decide +kernel, by decide +kernel⟩
noncomputable def d_is_zero : Fn := fnOf 1 (Zet (Ziw (e_call d_is_whole (Zac (Zah 0) a_nil)) (Za2 pEq (Zah 0) (e_c (.int 0)))))
theorem ok_is_zero (T : Top K mg ad fdd ct) : FnOk P w K mg base CX0 2 (ad 2) (fdd 2) ["x"] (spF ⟨K, ct, w⟩ FN 1 d_is_zero) :=
  Zg1 rfl T.d_is_zero.fn sc_is_zero fun cdv A outer s H E hr => (Zdc (Zee (Zk3 (Zdp (Znc T) (hr.mono (by decide)) rfl T.d_is_whole.mg T.d_is_whole.fn.kp T.d_is_whole.bd Zbu (Zai Zaz) (Zab (Zak 0) Zam)) (v_one (v_cmp (o_eq hr.units) Zmv (Zak 0) Zbn)))))
theorem sc_is_end : FnScope N_is_end ["x"] (defScope st_is_end) := ⟨rfl, rfl, rfl, by decide +kernel, rfl, by decide +kernel, by decide +kernel⟩
noncomputable def d_is_end : Fn := fnOf 1 (Zet (e_or (e_call d_is_name (Zac (Zah 0) a_nil)) (e_call d_is_zero (Zac (Zah 0) a_nil))))
theorem ok_is_end (T : Top K mg ad fdd ct) : FnOk P w K mg base CX0 3 (ad 3) (fdd 3) ["x"] (spF ⟨K, ct, w⟩ FN 1 d_is_end) :=
  Zg1 rfl T.d_is_end.fn sc_is_end fun cdv A outer s H E hr => (Zdc (Zee (v_or (Zdp (ok_is_name T) (hr.mono (by decide)) rfl T.d_is_name.mg T.d_is_name.fn.kp T.d_is_name.bd Zbu (Zai Zaz) (Zab (Zak 0) Zam)) (v_one (Zdp (ok_is_zero T) (hr.mono (by decide)) rfl T.d_is_zero.mg T.d_is_zero.fn.kp T.d_is_zero.bd Zbu (Zai Zaz) (Zab (Zak 0) Zam))))))
theorem sc_is_fact : FnScope N_is_fact ["x"] (defScope st_is_fact) := ⟨rfl, rfl, rfl, by decide +kernel, rfl, by decide +kernel, by decide +kernel⟩
noncomputable def d_is_fact : Fn := fnOf 1 (Zet (Ziw (Zny "tuple" (Zah 0)) (Ziw (Za2 pEq (e_cb pLen (Zac (Zah 0) a_nil)) (e_c (.int 3))) (Ziw (e_call d_is_end (Zac (Za2 pIx (Zah 0) (e_c (.int 0))) a_nil)) (Ziw (e_call d_is_end (Zac (Za2 pIx (Zah 0) (e_c (.int 1))) a_nil)) (e_call d_is_whole (Zac (Za2 pIx (Zah 0) (e_c (.int 2))) a_nil)))))))
theorem ok_is_fact (T : Top K mg ad fdd ct) : FnOk P w K mg base CX0 4 (ad 4) (fdd 4) ["x"] (spF ⟨K, ct, w⟩ FN 1 d_is_fact) :=
  Zg1 rfl T.d_is_fact.fn sc_is_fact fun cdv A outer s H E hr => (Zdc (Zee (Zk3 (v_isT rfl kit_tuple rfl T.n_isinstance rfl T.n_tuple (by decide +kernel) (Zak 0)) (Zk3 (v_cmp (o_eq hr.units) Zmv (Zfq c_len Zhv rfl T.n_len (by decide +kernel) (Zab (Zak 0) Zam)) Zbn) (Zk3 (Zdp (ok_is_end T) (hr.mono (by decide)) rfl T.d_is_end.mg T.d_is_end.fn.kp T.d_is_end.bd Zbu (Zai Zaz) (Zab (v_ix rfl (hu_of hr) (Zak 0) Zbn) Zam)) (Zk3 (Zdp (ok_is_end T) (hr.mono (by decide)) rfl T.d_is_end.mg T.d_is_end.fn.kp T.d_is_end.bd Zbu (Zai Zaz) (Zab (v_ix rfl (hu_of hr) (Zak 0) Zbn) Zam)) (v_one (Zdp (Znc T) (hr.mono (by decide)) rfl T.d_is_whole.mg T.d_is_whole.fn.kp T.d_is_whole.bd Zbu (Zai Zaz) (Zab (v_ix rfl (hu_of hr) (Zak 0) Zbn) Zam)))))))))
theorem sc_is_conflict : FnScope Zj5 ["x"] (defScope st_is_conflict) := ⟨rfl, rfl, rfl, by decide +kernel, rfl, by decide +kernel, by decide +kernel⟩
noncomputable def d_is_conflict : Fn := fnOf 2 (Zet (Ziw (Zny "list" (Zah 0)) (Ziw (Za2 pGt (e_cb pLen (Zac (Zah 0) a_nil)) (e_c (.int 0))) (e_cb pAll (Zac (e_lc (Zhd (Zah 0)) (g_n 1) Zj6 (e_call d_is_fact (Zac (Zah 1) a_nil)) [1]) a_nil)))))
theorem Znu (T : Top K mg ad fdd ct) : FnOk P w K mg base CX0 5 (ad 5) (fdd 5) ["x"] (spF ⟨K, ct, w⟩ FN 1 d_is_conflict) :=
  Zg1 rfl T.d_is_conflict.fn sc_is_conflict fun cdv A outer s H E hr => (Zdc (Zee (Zk3 (v_isT rfl Zmc rfl T.n_isinstance rfl T.n_list (by decide +kernel) (Zak 0)) (Zk3 (v_cmp op_gt ops_gt (Zfq c_len Zhv rfl T.n_len (by decide +kernel) (Zab (Zak 0) Zam)) Zbn) (v_one (Zfq (cr_all rfl) cas_all rfl T.n_all (by decide +kernel) (Zab (v_lc [("part", 1)] rfl sc_is_conflict.nd (Zkf rfl (Zak 0)) (blkOk_by (N := Zj5) (sc := (defScope st_is_conflict)) (by decide +kernel)) (fun _ _ _ _ _ => (cg_n 1 sc_is_conflict.nd)) (fun _ _ _ _ _ => (Zdp (ok_is_fact T) (hr.mono (by decide)) rfl T.d_is_fact.mg T.d_is_fact.fn.kp T.d_is_fact.bd Zbu (Zai Zaz) (Zab (Zak 1) Zam)))) Zam)))))))
theorem sc_are_conflicts : FnScope Zh4 ["x"] (defScope st_are_conflicts) := ⟨rfl, rfl, rfl, by decide +kernel, rfl, by decide +kernel, by decide +kernel⟩
noncomputable def d_are_conflicts : Fn := fnOf 2 (Zet (Ziw (e_isTO "list" [7] (Zah 0)) (e_cb pAll (Zac (e_lc (Zhd (Zah 0)) (g_n 1) Zj6 (e_call d_is_conflict (Zac (Zah 1) a_nil)) [1]) a_nil))))
theorem Zhy (T : Top K mg ad fdd ct) : FnOk P w K mg base CX0 6 (ad 6) (fdd 6) ["x"] (spF ⟨K, ct, w⟩ FN 1 d_are_conflicts) :=
  Zg1 rfl T.d_are_conflicts.fn sc_are_conflicts fun cdv A outer s H E hr => (Zdc (Zee (Zk3 (v_isTO rfl Zmc T.noT_list rfl T.n_isinstance rfl T.n_list (by decide +kernel) (Zak 0)) (v_one (Zfq (cr_all rfl) cas_all rfl T.n_all (by decide +kernel) (Zab (v_lc [("part", 1)] rfl sc_are_conflicts.nd (Zkf rfl (Zak 0)) (blkOk_by (N := Zh4) (sc := (defScope st_are_conflicts)) (by decide +kernel)) (fun _ _ _ _ _ => (cg_n 1 sc_are_conflicts.nd)) (fun _ _ _ _ _ => (Zdp (Znu T) (hr.mono (by decide)) rfl T.d_is_conflict.mg T.d_is_conflict.fn.kp T.d_is_conflict.bd Zbu (Zai Zaz) (Zab (Zak 1) Zam)))) Zam))))))
theorem sc_Claim_init : FnScope Zin ["self", "conflicts"] (defScope Zdb) := ⟨rfl, rfl, rfl, by decide +kernel, rfl, by decide +kernel, by decide +kernel⟩
noncomputable def d_Claim_init : Fn := fnOf 3 (Zcg (s_if (Zib (Zhz (e_call d_are_conflicts (Zac (Zah 1) a_nil)))) Zku Ze4) (s_fld 7 "_conflicts" (e_lc (Zhd (Zah 1)) (g_n 2) Zj6 (e_cb Zh6 (Zac (Zah 2) a_nil)) [2]) (Zah 0)))
theorem Ze9 (T : Top K mg ad fdd ct) : FnOk P w K mg base CX0 7 (ad 7) (fdd 7) ["self", "conflicts"] (spF ⟨K, ct, w⟩ FN 2 d_Claim_init) :=
  Zg1 rfl T.d_Claim_init.fn sc_Claim_init fun cdv A outer s H E hr => (Za1 (Zif (w_not (Zn5 rfl (Zdp (Zhy T) (hr.mono (by decide)) rfl T.d_are_conflicts.mg T.d_are_conflicts.fn.kp T.d_are_conflicts.bd Zbu (Zai Zaz) (Zab (Zak 1) Zam)))) (Zdc vs_never) Zga) (Zdc (vs_fld rfl T.cls_Claim (T.na_conflicts) (Zak 0) (v_lc [("conflict", 2)] rfl sc_Claim_init.nd (Zkf rfl (Zak 1)) (blkOk_by (N := Zin) (sc := (defScope Zdb)) (by decide +kernel)) (fun _ _ _ _ _ => (cg_n 2 sc_Claim_init.nd)) (fun _ _ _ _ _ => (Zk0 (c_list rfl) Zju rfl T.n_list (by decide +kernel) (Zab (Zak 2) Zam)))))))
noncomputable def Ze2 : Fn := fnOf 3 (Zcg (s_if (Zib (Zhz (e_call d_are_conflicts (Zac (Zah 1) a_nil)))) (s_raise 11 (Zac (Zah 1) a_nil)) Ze4) (s_fld 7 "_conflicts" (e_lc (Zhd (Zah 1)) (g_n 2) Zj6 (e_cb Zh6 (Zac (Zah 2) a_nil)) [2]) (Zah 0)))
theorem Zik (T : Top K mg ad fdd ct) : FnOk P w K mg base (L2.CX P w) 7 (ad 7) (fdd 7) ["self", "conflicts"] (spF ⟨K, ct, w⟩ FN 2 Ze2) :=
  v_defX rfl T.d_Claim_init.fn sc_Claim_init fun cdv A outer s H E hr => (Za1 (Zif (w_not (Zn5 rfl (Zdp (Zhy T) (hr.mono (by decide)) rfl T.d_are_conflicts.mg T.d_are_conflicts.fn.kp T.d_are_conflicts.bd Zbu (Zai Zaz) (Zab (Zak 1) Zam)))) (Zdc (vs_raise rfl takes_cx T.er_InvalidClaim.er (Zm4 T) (hr.mono (by decide)) rfl rfl (Zab (Zak 1) Zam))) Zga) (Zdc (vs_fld rfl T.cls_Claim (T.na_conflicts) (Zak 0) (v_lc [("conflict", 2)] rfl sc_Claim_init.nd (Zkf rfl (Zak 1)) (blkOk_by (N := Zin) (sc := (defScope Zdb)) (by decide +kernel)) (fun _ _ _ _ _ => (cg_n 2 sc_Claim_init.nd)) (fun _ _ _ _ _ => (Zk0 (c_list rfl) Zju rfl T.n_list (by decide +kernel) (Zab (Zak 2) Zam)))))))
theorem sc__law_refused : FnScope Znr ["_law_groups"] (defScope st__law_refused) := ⟨rfl, rfl, rfl, by decide +kernel, rfl, by decide +kernel, by decide +kernel⟩
noncomputable def d__law_refused : Fn := fnOf 3 (Zcg (Zes (e_c .non) (g_n 1)) (Zcg (s_tryX FN [11] 1 2 (e_make 7 Ze2 (Zac (Zah 0) a_nil))) (Zcg (s_if (Zhz (Zny "list" (Zah 0))) (s_ex (e_bm isL Zfc (Zah 0) (Zac (e_c (.str "later")) a_nil))) Ze4) (Zet (Ziw (e_isX [11] 11 (Zah 1)) (Za2 pEq (Zfr (e_fldX 11 "value" (Zah 1))) (Zfr (Zah 0))))))))
theorem Zii (T : Top K mg ad fdd ct) : FnG P w K mg base 9 (ad 8) (fdd 8) ["_law_groups"] (spF ⟨K, ct, w⟩ FN 1 d__law_refused) :=
  v_defG rfl T.d__law_refused.fn sc__law_refused fun cdv A outer s H E gA hr => (Za1 (Zef 1 sc__law_refused.nd v_non) (Za1 (vs_tryXE (i := 1) (j := 2) (L := [11]) rfl T.exm rfl rfl rfl sc__law_refused.nd ⟨rfl, by decide, .inl T.mg_ThemeError⟩ (fun W pn xe tk => (v_makeE rfl T.mk_Claim (Zik T) (hr.mono (by decide)) rfl T.mg_Claim T.d_Claim_init.bd (fun σ => passAt tk σ) (Zai Zaz) (fun _ => (Zab (Zak 0) Zam))))) (Za1 (Zif (Zn5 rfl (v_isT rfl Zmc rfl T.n_isinstance rfl T.n_list (by decide +kernel) (Zak 0))) (Zdc (vs_ex (v_bm rfl PySem.F.plainAttrs_list PySem.F.slot_list_append PySem.F.type_list_append mt_append Zip Zgr (Zak 0) (Zab Zfo Zam)))) Zga) (Zdc (Zee (Zk3 (v_isX (L := [11]) (c := 11) rfl ⟨T.no_InvalidClaim, fun k h => ⟨T.exs k h, T.kx_InvalidClaim k h⟩⟩ rfl T.n_isinstance rfl T.er_InvalidClaim.er.mgC (Zak 1)) (v_one (v_cmp (o_eq hr.units) Zmv (Zg5 (Zdi gA) (u66 hr) rfl rfl T.n_repr (by decide +kernel) (v_fldX (c := 11) rfl (xfc_of (T.exs _ (by decide))) T.er_InvalidClaim.er.no (Zak 1))) (Zg5 (Zdi gA) (u66 hr) rfl rfl T.n_repr (by decide +kernel) (Zak 0))))))))))
theorem sc__law_purse : FnScope N__law_purse ["_law_script", "_law_at"] (defScope st__law_purse) := ⟨rfl, rfl, rfl, by decide +kernel, rfl, by decide +kernel, by decide +kernel⟩
noncomputable def d__law_purse : Fn := fnOf 3 (Zcg (Zes (e_cb pSum (Zac (e_sl pSl (Zah 0) (Zjr (Zah 1)) (Zjr (Za2 pAdd (Zah 1) (e_c (.int 1))))) a_nil)) (g_n 2)) (Zet (e_lstC (Zac (Za2 Znf (e_cb pMax (Zac (Za2 pSubI (Zah 2) (Za2 pPowI (e_c (.int 10)) (e_c (.int 18)))) (Zac (e_c (.int 0)) a_nil))) (Za2 pPowI (Za2 pPowI (e_c (.int 10)) (e_c (.int 60))) (e_c (.int 8)))) (Zac (Za2 Znf (Zah 2) (e_c (.int 2147483629))) (Zac (Za2 Zls (e_c (.int 1000)) (Zah 1)) a_nil))))))
theorem ok__law_purse (T : Top K mg ad fdd ct) : FnOk P w K mg base CX0 1 (ad 9) (fdd 9) ["_law_script", "_law_at"] (spF ⟨K, ct, w⟩ FN 2 d__law_purse) :=
  Zg1 rfl T.d__law_purse.fn sc__law_purse fun cdv A outer s H E hr => (Za1 (Zef 2 sc__law_purse.nd (Zfq (cr_sum rfl) cas_sum rfl T.n_sum (by decide +kernel) (Zab (v_sl rfl (Zak 0) (Zi7 (Zak 1)) (Zi7 (Zed Zfx Zdy (Zak 1) Zbn))) Zam))) (Zdc (Zee (Zfl (Zab (Zed op_mod Zjb (Zfq (c_max rfl) cas_max rfl T.n_max (by decide +kernel) (Zab (Zed op_sub ops_sub (Zak 2) (Zed Znj Zm5 Zbn Zbn)) (Zab Zbn Zam))) (Zed Znj Zm5 (Zed Znj Zm5 Zbn Zbn) Zbn)) (Zab (Zed op_mod Zjb (Zak 2) Zbn) (Zab (Zed op_mul Zh3 Zbn (Zak 1)) Zam)))))))
theorem sc__law_mixed : FnScope N__law_mixed ["_law_seed", "_law_step"] (defScope st__law_mixed) := ⟨rfl, rfl, rfl, by decide +kernel, rfl, by decide +kernel, by decide +kernel⟩
noncomputable def d__law_mixed : Fn := fnOf 3 (Zcg (Zes (Za2 Znf (Za2 pAdd (Za2 pAdd (Za2 Zls (Zah 0) (e_c (.int 69069))) (Za2 Zls (Za2 Zls (e_c (.int 104729)) (Zah 1)) (Zah 1))) (Zah 1)) (e_c (.int 2147483647))) (g_n 2)) (Zcg (Zes (Za2 Znf (Za2 pAdd (Za2 Zls (Zah 2) (Zah 2)) (e_c (.int 40503))) (e_c (.int 2147483629))) (g_n 2)) (Zet (Za2 Znf (Za2 Zls (Zah 2) (e_c (.int 48271))) (e_c (.int 2147483587))))))
theorem ok__law_mixed (T : Top K mg ad fdd ct) : FnOk P w K mg base CX0 1 (ad 10) (fdd 10) ["_law_seed", "_law_step"] (spF ⟨K, ct, w⟩ FN 2 d__law_mixed) :=
  Zg1 rfl T.d__law_mixed.fn sc__law_mixed fun cdv A outer s H E hr => (Za1 (Zef 2 sc__law_mixed.nd (Zed op_mod Zjb (Zed Zfx Zdy (Zed Zfx Zdy (Zed op_mul Zh3 (Zak 0) Zbn) (Zed op_mul Zh3 (Zed op_mul Zh3 Zbn (Zak 1)) (Zak 1))) (Zak 1)) Zbn)) (Za1 (Zef 2 sc__law_mixed.nd (Zed op_mod Zjb (Zed Zfx Zdy (Zed op_mul Zh3 (Zak 2) (Zak 2)) Zbn) Zbn)) (Zdc (Zee (Zed op_mod Zjb (Zed op_mul Zh3 (Zak 2) Zbn) Zbn)))))
theorem sc__law_draw : FnScope N__law_draw ["_law_purse_here", "_law_many"] (defScope st__law_draw) := ⟨rfl, rfl, rfl, by decide +kernel, rfl, by decide +kernel, by decide +kernel⟩
noncomputable def d__law_draw : Fn := fnOf 5 (Zcg (s_if (Zgn (Za2 pGt (Za2 pIx (Zah 0) (e_c (.int 0))) (e_c (.int 0)))) (Zcg (Zes (Za2 Znf (Za2 pIx (Zah 0) (e_c (.int 0))) (Zah 1)) (g_n 2)) (Zcg (s_setI (Za2 pDivI (Za2 pIx (Zah 0) (e_c (.int 0))) (Zah 1)) (Zah 0) (e_c (.int 0))) (Zet (Zah 2)))) Ze4) (Zcg (Zes (e_c (.int 0)) (g_n 3)) (Zcg (Ziu (n_rng (Za2 pAdd (e_c (.int 1)) (Za2 pDivI (e_bits (Zah 1)) (e_c (.int 28))))) (g_n 4) (Zcg (s_setI (Za2 pAdd (Za2 pIx (Zah 0) (e_c (.int 2))) (e_c (.int 1))) (Zah 0) (e_c (.int 2))) (Zes (Za2 pAdd (Za2 Zls (Zah 3) (e_c (.int 2147483587))) (e_call d__law_mixed (Zac (Za2 pIx (Zah 0) (e_c (.int 1))) (Zac (Za2 pIx (Zah 0) (e_c (.int 2))) a_nil)))) (g_n 3)))) (Zet (Za2 Znf (Zah 3) (Zah 1))))))
theorem Zc7 (T : Top K mg ad fdd ct) : FnOk P w K mg base CX0 2 (ad 11) (fdd 11) ["_law_purse_here", "_law_many"] (spF ⟨K, ct, w⟩ FN 2 d__law_draw) :=
  Zg1 rfl T.d__law_draw.fn sc__law_draw fun cdv A outer s H E hr => (Za1 (Zif (Zkq op_gt ops_gt (v_ix rfl (hu_of hr) (Zak 0) Zbn) Zbn) (Za1 (Zef 2 sc__law_draw.nd (Zed op_mod Zjb (v_ix rfl (hu_of hr) (Zak 0) Zbn) (Zak 1))) (Za1 (vs_setI (Zed op_fdivW ops_div (v_ix rfl (hu_of hr) (Zak 0) Zbn) (Zak 1)) (Zak 0) Zbn) (Zdc (Zee (Zak 2))))) Zga) (Za1 (Zef 3 sc__law_draw.nd Zbn) (Za1 (Zj3 PassesOwn.never rfl (Zmo rfl T.n_range (Zed Zfx Zdy Zbn (Zed op_fdivW ops_div (v_bits (Zak 1)) Zbn))) (vg_n 4 sc__law_draw.nd) (Za1 (vs_setI (Zed Zfx Zdy (v_ix rfl (hu_of hr) (Zak 0) Zbn) Zbn) (Zak 0) Zbn) (Zdc (Zef 3 sc__law_draw.nd (Zed Zfx Zdy (Zed op_mul Zh3 (Zak 3) Zbn) (Zdp (ok__law_mixed T) (hr.mono (by decide)) rfl T.d__law_mixed.mg T.d__law_mixed.fn.kp T.d__law_mixed.bd Zbu (Zai (Zai Zaz)) (Zab (v_ix rfl (hu_of hr) (Zak 0) Zbn) (Zab (v_ix rfl (hu_of hr) (Zak 0) Zbn) Zam)))))))) (Zdc (Zee (Zed op_mod Zjb (Zak 3) (Zak 1)))))))
theorem sc__law_name : FnScope Zji ["_law_purse_here", "_law_names"] (defScope st__law_name) := ⟨rfl, rfl, rfl, by decide +kernel, rfl, by decide +kernel, by decide +kernel⟩
noncomputable def d__law_name : Fn := fnOf 9 (Zcg (Zes (e_c (.str "abcdefghijklmnopqrstuvwxyz")) (g_n 2)) (Zcg (Zes (Za2 pIx (Zah 2) (e_call d__law_draw (Zac (Zah 0) (Zac (e_c (.int 26)) a_nil)))) (g_n 3)) (Zcg (Ziu (n_rng (Za2 pIx (Ze7 (Zac (e_c (.int 0)) (Zac (e_c (.int 0)) (Zac (e_c (.int 1)) (Zac (e_c (.int 9)) a_nil))))) (e_call d__law_draw (Zac (Zah 0) (Zac (e_c (.int 4)) a_nil))))) (g_n 4) (Zes (Za2 pAdd (Zah 3) (Za2 pIx (Zah 2) (e_call d__law_draw (Zac (Zah 0) (Zac (e_c (.int 26)) a_nil))))) (g_n 3))) (Zcg (Zes (Ze7 (Zac (e_c (.str "free")) (Zac (e_c (.str "sealed")) (Zac (e_c (.str "choice")) (Zac (e_c (.str "extend")) (Zac (e_c (.str "number")) (Zac (e_c (.str "plus")) (Zac (e_c (.str "max")) (Zac (e_c (.str "min")) (Zac (e_c (.str "if")) (Zac (e_c (.str "set")) (Zac (e_c (.str "case")) (Zac (e_c (.str "ring")) a_nil))))))))))))) (g_n 5)) (Zcg (Zes (Za2 pIx (Ze7 (Zac (Zah 3) (Zac (Zah 3) (Zac (Zah 3) (Zac (Zah 3) (Zac (Za2 pIx (Zah 5) (e_call d__law_draw (Zac (Zah 0) (Zac (e_c (.int 12)) a_nil)))) a_nil)))))) (e_call d__law_draw (Zac (Zah 0) (Zac (e_c (.int 5)) a_nil)))) (g_n 3)) (Zcg (Zes (Za2 pAdd (Ze7 (Zac (Zah 3) a_nil)) (e_lc (n_str (e_sl pSl (Zah 2) (Zjr (e_c (.int 13))) o_no)) (g_n 7) Zj6 (Za2 pAdd (Zah 7) (e_sl pSl (Zah 3) o_no (Zjr (e_c (.int 9))))) [7])) (g_n 6)) (Zet (Za2 pIx (e_lc (Zhd (Zah 6)) (g_n 8) (Zgn (Za2 (pIn true) (Zah 8) (Zah 1))) (Zah 8) [8]) (e_c (.int 0))))))))))
theorem ok__law_name (T : Top K mg ad fdd ct) : FnOk P w K mg base CX0 3 (ad 12) (fdd 12) ["_law_purse_here", "_law_names"] (spF ⟨K, ct, w⟩ FN 2 d__law_name) :=
  Zg1 rfl T.d__law_name.fn sc__law_name fun cdv A outer s H E hr => (Za1 (Zef 2 sc__law_name.nd Zfo) (Za1 (Zef 3 sc__law_name.nd (v_ix rfl (hu_of hr) (Zak 2) (Zdp (Zc7 T) (hr.mono (by decide)) rfl T.d__law_draw.mg T.d__law_draw.fn.kp T.d__law_draw.bd Zbu (Zai (Zai Zaz)) (Zab (Zak 0) (Zab Zbn Zam))))) (Za1 (Zj3 PassesOwn.never rfl (Zmo rfl T.n_range (v_ix rfl (hu_of hr) (Zfl (Zab Zbn (Zab Zbn (Zab Zbn (Zab Zbn Zam))))) (Zdp (Zc7 T) (hr.mono (by decide)) rfl T.d__law_draw.mg T.d__law_draw.fn.kp T.d__law_draw.bd Zbu (Zai (Zai Zaz)) (Zab (Zak 0) (Zab Zbn Zam))))) (vg_n 4 sc__law_name.nd) (Zdc (Zef 3 sc__law_name.nd (Zed Zfx Zdy (Zak 3) (v_ix rfl (hu_of hr) (Zak 2) (Zdp (Zc7 T) (hr.mono (by decide)) rfl T.d__law_draw.mg T.d__law_draw.fn.kp T.d__law_draw.bd Zbu (Zai (Zai Zaz)) (Zab (Zak 0) (Zab Zbn Zam)))))))) (Za1 (Zef 5 sc__law_name.nd (Zfl (Zab Zfo (Zab Zfo (Zab Zfo (Zab Zfo (Zab Zfo (Zab Zfo (Zab Zfo (Zab Zfo (Zab Zfo (Zab Zfo (Zab Zfo (Zab Zfo Zam)))))))))))))) (Za1 (Zef 3 sc__law_name.nd (v_ix rfl (hu_of hr) (Zfl (Zab (Zak 3) (Zab (Zak 3) (Zab (Zak 3) (Zab (Zak 3) (Zab (v_ix rfl (hu_of hr) (Zak 5) (Zdp (Zc7 T) (hr.mono (by decide)) rfl T.d__law_draw.mg T.d__law_draw.fn.kp T.d__law_draw.bd Zbu (Zai (Zai Zaz)) (Zab (Zak 0) (Zab Zbn Zam)))) Zam)))))) (Zdp (Zc7 T) (hr.mono (by decide)) rfl T.d__law_draw.mg T.d__law_draw.fn.kp T.d__law_draw.bd Zbu (Zai (Zai Zaz)) (Zab (Zak 0) (Zab Zbn Zam))))) (Za1 (Zef 6 sc__law_name.nd (Zed Zfx Zdy (Zfl (Zab (Zak 3) Zam)) (v_lc [("_law_letter", 7)] rfl sc__law_name.nd (vi_str (v_sl rfl (Zak 2) (Zi7 Zbn) vo_no)) (blkOk_by (N := Zji) (sc := (defScope st__law_name)) (by decide +kernel)) (fun _ _ _ _ _ => (cg_n 7 sc__law_name.nd)) (fun _ _ _ _ _ => (Zed Zfx Zdy (Zak 7) (v_sl rfl (Zak 3) vo_no (Zi7 Zbn))))))) (Zdc (Zee (v_ix rfl (hu_of hr) (v_lci [("_law_made", 8)] rfl sc__law_name.nd (Zkf rfl (Zak 6)) (blkOk_by (N := Zji) (sc := (defScope st__law_name)) (by decide +kernel)) (fun _ _ _ _ _ => (cg_n 8 sc__law_name.nd)) (fun _ _ _ _ _ => (Zkq (o_ni (hu_of hr)) ops_in (Zak 8) (Zak 1))) (fun _ _ _ _ _ => (Zak 8))) Zbn)))))))))
theorem sc__law_number : FnScope N__law_number ["_law_purse_here"] (defScope st__law_number) := ⟨rfl, rfl, rfl, by decide +kernel, rfl, by decide +kernel, by decide +kernel⟩
noncomputable def d__law_number : Fn := fnOf 2 (Zcg (Zes (Za2 pIx (Ze7 (Zac (e_c (.int 4)) (Zac (e_c (.int 4)) (Zac (e_c (.int 4)) (Zac (e_c (.int 4)) (Zac (e_c (.int 100)) (Zac (Za2 pPowI (e_c (.int 10)) (e_c (.int 6))) (Zac (Za2 pPowI (e_c (.int 10)) (e_c (.int 38))) a_nil)))))))) (e_call d__law_draw (Zac (Zah 0) (Zac (e_c (.int 7)) a_nil)))) (g_n 1)) (Zet (Za2 pSubI (e_call d__law_draw (Zac (Zah 0) (Zac (Za2 pAdd (Za2 Zls (e_c (.int 2)) (Zah 1)) (e_c (.int 1))) a_nil))) (Zah 1))))
theorem ok__law_number (T : Top K mg ad fdd ct) : FnOk P w K mg base CX0 3 (ad 13) (fdd 13) ["_law_purse_here"] (spF ⟨K, ct, w⟩ FN 1 d__law_number) :=
  Zg1 rfl T.d__law_number.fn sc__law_number fun cdv A outer s H E hr => (Za1 (Zef 1 sc__law_number.nd (v_ix rfl (hu_of hr) (Zfl (Zab Zbn (Zab Zbn (Zab Zbn (Zab Zbn (Zab Zbn (Zab (Zed Znj Zm5 Zbn Zbn) (Zab (Zed Znj Zm5 Zbn Zbn) Zam)))))))) (Zdp (Zc7 T) (hr.mono (by decide)) rfl T.d__law_draw.mg T.d__law_draw.fn.kp T.d__law_draw.bd Zbu (Zai (Zai Zaz)) (Zab (Zak 0) (Zab Zbn Zam))))) (Zdc (Zee (Zed op_sub ops_sub (Zdp (Zc7 T) (hr.mono (by decide)) rfl T.d__law_draw.mg T.d__law_draw.fn.kp T.d__law_draw.bd Zbu (Zai (Zai Zaz)) (Zab (Zak 0) (Zab (Zed Zfx Zdy (Zed op_mul Zh3 Zbn (Zak 1)) Zbn) Zam))) (Zak 1)))))
theorem sc__law_facts : FnScope N__law_facts ["_law_purse_here", "_law_ends"] (defScope st__law_facts) := ⟨rfl, rfl, rfl, by decide +kernel, rfl, by decide +kernel, by decide +kernel⟩
noncomputable def d__law_facts : Fn := fnOf 8 (Zcg (Zes (e_lstC a_nil) (g_n 2)) (Zcg (Ziu (n_rng (e_call d__law_draw (Zac (Zah 0) (Zac (e_c (.int 3)) a_nil)))) (g_n 3) (Zcg (Zes (e_lstC a_nil) (g_n 4)) (Zcg (Ziu (n_rng (Za2 pAdd (e_c (.int 1)) (e_call d__law_draw (Zac (Zah 0) (Zac (e_c (.int 4)) a_nil))))) (g_n 5) (Zcg (s_par 6 7 (Zac (Za2 pIx (Zah 1) (e_call d__law_draw (Zac (Zah 0) (Zac (e_cb pLen (Zac (Zah 1) a_nil)) a_nil)))) (Zac (Za2 pIx (Zah 1) (e_call d__law_draw (Zac (Zah 0) (Zac (e_cb pLen (Zac (Zah 1) a_nil)) a_nil)))) a_nil))) (s_ex (e_bm isL Zfc (Zah 4) (Zac (Zgh (Zac (Zah 6) (Zac (Zah 7) (Zac (e_call d__law_number (Zac (Zah 0) a_nil)) a_nil)))) a_nil))))) (s_ex (e_bm isL Zfc (Zah 2) (Zac (Zah 4) a_nil)))))) (Zet (Zah 2))))
theorem Zkb (T : Top K mg ad fdd ct) : FnOk P w K mg base CX0 4 (ad 14) (fdd 14) ["_law_purse_here", "_law_ends"] (spF ⟨K, ct, w⟩ FN 2 d__law_facts) :=
  Zg1 rfl T.d__law_facts.fn sc__law_facts fun cdv A outer s H E hr => (Za1 (Zef 2 sc__law_facts.nd (Zfl Zam)) (Za1 (Zj3 PassesOwn.never rfl (Zmo rfl T.n_range (Zdp (Zc7 T) (hr.mono (by decide)) rfl T.d__law_draw.mg T.d__law_draw.fn.kp T.d__law_draw.bd Zbu (Zai (Zai Zaz)) (Zab (Zak 0) (Zab Zbn Zam)))) (vg_n 3 sc__law_facts.nd) (Za1 (Zef 4 sc__law_facts.nd (Zfl Zam)) (Za1 (Zj3 PassesOwn.never rfl (Zmo rfl T.n_range (Zed Zfx Zdy Zbn (Zdp (Zc7 T) (hr.mono (by decide)) rfl T.d__law_draw.mg T.d__law_draw.fn.kp T.d__law_draw.bd Zbu (Zai (Zai Zaz)) (Zab (Zak 0) (Zab Zbn Zam))))) (vg_n 5 sc__law_facts.nd) (Za1 (vs_par 6 7 rfl sc__law_facts.nd (Zab (v_ix rfl (hu_of hr) (Zak 1) (Zdp (Zc7 T) (hr.mono (by decide)) rfl T.d__law_draw.mg T.d__law_draw.fn.kp T.d__law_draw.bd Zbu (Zai (Zai Zaz)) (Zab (Zak 0) (Zab (Zfq c_len Zhv rfl T.n_len (by decide +kernel) (Zab (Zak 1) Zam)) Zam)))) (Zab (v_ix rfl (hu_of hr) (Zak 1) (Zdp (Zc7 T) (hr.mono (by decide)) rfl T.d__law_draw.mg T.d__law_draw.fn.kp T.d__law_draw.bd Zbu (Zai (Zai Zaz)) (Zab (Zak 0) (Zab (Zfq c_len Zhv rfl T.n_len (by decide +kernel) (Zab (Zak 1) Zam)) Zam)))) Zam))) (Zdc (vs_ex (v_bm rfl PySem.F.plainAttrs_list PySem.F.slot_list_append PySem.F.type_list_append mt_append Zip Zgr (Zak 4) (Zab (Zhs (Zab (Zak 6) (Zab (Zak 7) (Zab (Zdp (ok__law_number T) (hr.mono (by decide)) rfl T.d__law_number.mg T.d__law_number.fn.kp T.d__law_number.bd Zbu (Zai Zaz) (Zab (Zak 0) Zam)) Zam)))) Zam)))))) (Zdc (vs_ex (v_bm rfl PySem.F.plainAttrs_list PySem.F.slot_list_append PySem.F.type_list_append mt_append Zip Zgr (Zak 2) (Zab (Zak 4) Zam))))))) (Zdc (Zee (Zak 2)))))
theorem sc__law_copied : FnScope Zjm ["_law_groups"] (defScope st__law_copied) := ⟨rfl, rfl, rfl, by decide +kernel, rfl, by decide +kernel, by decide +kernel⟩
noncomputable def d__law_copied : Fn := fnOf 2 (Zet (e_lc (Zhd (Zah 0)) (g_n 1) Zj6 (e_cb Zh6 (Zac (Zah 1) a_nil)) [1]))
theorem Zfh (T : Top K mg ad fdd ct) : FnOk P w K mg base CX0 1 (ad 15) (fdd 15) ["_law_groups"] (spF ⟨K, ct, w⟩ FN 1 d__law_copied) :=
  Zg1 rfl T.d__law_copied.fn sc__law_copied fun cdv A outer s H E hr => (Zdc (Zee (v_lc [("_law_facts_here", 1)] rfl sc__law_copied.nd (Zkf rfl (Zak 0)) (blkOk_by (N := Zjm) (sc := (defScope st__law_copied)) (by decide +kernel)) (fun _ _ _ _ _ => (cg_n 1 sc__law_copied.nd)) (fun _ _ _ _ _ => (Zk0 (c_list rfl) Zju rfl T.n_list (by decide +kernel) (Zab (Zak 1) Zam))))))
theorem sc_Claim_conflicts : FnScope Zhi ["self"] (defScope Zcf) := ⟨rfl, rfl, rfl, by decide +kernel, rfl, by decide +kernel, by decide +kernel⟩
noncomputable def d_Claim_conflicts : Fn := fnOf 2 (Zet (e_lc (Zhd (Zmx 7 "_conflicts" (Zah 0))) (g_n 1) Zj6 (e_cb Zh6 (Zac (Zah 1) a_nil)) [1]))
theorem Zch (T : Top K mg ad fdd ct) : FnOk P w K mg base CX0 1 (ad 16) (fdd 16) ["self"] (spF ⟨K, ct, w⟩ FN 1 d_Claim_conflicts) :=
  Zg1 rfl T.d_Claim_conflicts.fn sc_Claim_conflicts fun cdv A outer s H E hr => (Zdc (Zee (v_lc [("conflict", 1)] rfl sc_Claim_conflicts.nd (Zkf rfl (v_fld rfl T.cls_Claim T.na_conflicts (Zak 0))) (blkOk_by (N := Zhi) (sc := (defScope Zcf)) (by decide +kernel)) (fun _ _ _ _ _ => (cg_n 1 sc_Claim_conflicts.nd)) (fun _ _ _ _ _ => (Zk0 (c_list rfl) Zju rfl T.n_list (by decide +kernel) (Zab (Zak 1) Zam))))))
theorem sc__law_spoil : FnScope N__law_spoil ["_law_groups"] (defScope st__law_spoil) := ⟨rfl, rfl, rfl, by decide +kernel, rfl, by decide +kernel, by decide +kernel⟩
noncomputable def d__law_spoil : Fn := fnOf 2 (Zcg (Ziu (Zhd (Zah 0)) (g_n 1) (s_ex (e_bm isL Zfc (Zah 1) (Zac (Zgh (Zac (e_c (.str "a")) (Zac (e_c (.str "a")) (Zac (e_c (.int 0)) a_nil)))) a_nil)))) (s_ex (e_bm isL Zfc (Zah 0) (Zac (Ze7 a_nil) a_nil))))
theorem Zke (T : Top K mg ad fdd ct) : FnOk P w K mg base CX0 1 (ad 17) (fdd 17) ["_law_groups"] (spF ⟨K, ct, w⟩ FN 1 d__law_spoil) :=
  Zg1 rfl T.d__law_spoil.fn sc__law_spoil fun cdv A outer s H E hr => (Za1 (Zj3 PassesOwn.never rfl (Zkf rfl (Zak 0)) (vg_n 1 sc__law_spoil.nd) (Zdc (vs_ex (v_bm rfl PySem.F.plainAttrs_list PySem.F.slot_list_append PySem.F.type_list_append mt_append Zip Zgr (Zak 1) (Zab (Zhs (Zab Zfo (Zab Zfo (Zab Zbn Zam)))) Zam))))) (Zdc (vs_ex (v_bm rfl PySem.F.plainAttrs_list PySem.F.slot_list_append PySem.F.type_list_append mt_append Zip Zgr (Zak 0) (Zab (Zfl Zam) Zam)))))
theorem sc_Claim_eq : FnScope N_Claim_eq ["self", "other"] (defScope Zeo) := ⟨rfl, rfl, rfl, by decide +kernel, rfl, by decide +kernel, by decide +kernel⟩
noncomputable def d_Claim_eq : Fn := fnOf 2 (Zet (Ziw (e_isI 7 (Zah 1)) (Za2 pEq (Zmx 7 "_conflicts" (Zah 0)) (Zmx 7 "_conflicts" (Zah 1)))))
theorem Zf7 (T : Top K mg ad fdd ct) : FnOk P w K mg base CX0 1 (ad 18) (fdd 18) ["self", "other"] (spF ⟨K, ct, w⟩ FN 2 d_Claim_eq) :=
  Zg1 rfl T.d_Claim_eq.fn sc_Claim_eq fun cdv A outer s H E hr => (Zdc (Zee (Zk3 (v_isI rfl T.cls_Claim T.isi_Claim rfl T.n_isinstance rfl T.mg_Claim (Zak 1)) (v_one (v_cmp (o_eq hr.units) Zmv (v_fld rfl T.cls_Claim T.na_conflicts (Zak 0)) (v_fld rfl T.cls_Claim T.na_conflicts (Zak 1)))))))
theorem Zl0 : FnScope Zni ["claim"] (defScope st_require_claim) := ⟨rfl, rfl, rfl, by decide +kernel, rfl, by decide +kernel, by decide +kernel⟩
noncomputable def d_require_claim : Fn := fnOf 1 (s_if (Zib (Zhz (e_isI 7 (Zah 0)))) Zku Ze4)
theorem Zlj (T : Top K mg ad fdd ct) : FnOk P w K mg base CX0 1 (ad 19) (fdd 19) ["claim"] (spF ⟨K, ct, w⟩ FN 1 d_require_claim) :=
  Zg1 rfl T.d_require_claim.fn Zl0 fun cdv A outer s H E hr => (Zdc (Zif (w_not (Zn5 rfl (v_isI rfl T.cls_Claim T.isi_Claim rfl T.n_isinstance rfl T.mg_Claim (Zak 0)))) (Zdc vs_never) Zga))
theorem sc_Claim_and : FnScope N_Claim_and ["self", "other"] (defScope Zel) := ⟨rfl, rfl, rfl, by decide +kernel, rfl, by decide +kernel, by decide +kernel⟩
noncomputable def d_Claim_and : Fn := fnOf 2 (Zcg (s_ex (e_call d_require_claim (Zac (Zah 1) a_nil))) (Zet (e_make 7 d_Claim_init (Zac (Za2 pAdd (Zmx 7 "_conflicts" (Zah 0)) (Zmx 7 "_conflicts" (Zah 1))) a_nil))))
theorem Zg2 (T : Top K mg ad fdd ct) : FnOk P w K mg base CX0 9 (ad 20) (fdd 20) ["self", "other"] (spF ⟨K, ct, w⟩ FN 2 d_Claim_and) :=
  Zg1 rfl T.d_Claim_and.fn sc_Claim_and fun cdv A outer s H E hr => (Za1 (vs_ex (Zdp (Zlj T) (hr.mono (by decide)) rfl T.d_require_claim.mg T.d_require_claim.fn.kp T.d_require_claim.bd Zbu (Zai Zaz) (Zab (Zak 1) Zam))) (Zdc (Zee (v_make rfl T.mk_Claim (Ze9 T) (hr.mono (by decide)) rfl T.mg_Claim T.d_Claim_init.bd Zbu (Zai Zaz) (Zab (Zed Zfx Zdy (v_fld rfl T.cls_Claim T.na_conflicts (Zak 0)) (v_fld rfl T.cls_Claim T.na_conflicts (Zak 1))) Zam)))))
theorem sc__law_joined : FnScope N__law_joined ["_law_claim", "_law_second", "_law_due", "_law_other"] (defScope st__law_joined) := ⟨rfl, rfl, rfl, by decide +kernel, rfl, by decide +kernel, by decide +kernel⟩
noncomputable def d__law_joined : Fn := fnOf 6 (Zcg (Zes (Zjy 7 d_Claim_and (Zah 0) (Zah 1)) (g_n 4)) (Zcg (s_if (t_or (Zgn (Za2 pNe (Zf4 7 d_Claim_conflicts (Zah 4)) (Za2 pAdd (Zah 2) (Zah 3)))) (Zgn (Za2 pNe (Zfr (Zf4 7 d_Claim_conflicts (Zjy 7 d_Claim_and (Zah 1) (Zah 0)))) (Zfr (Za2 pAdd (Zah 3) (Zah 2)))))) (Zet (e_c (.bl false))) Ze4) (Zcg (s_if (Zgn (Za2 pNe (Zfr (Zf4 7 d_Claim_conflicts (Zjy 7 d_Claim_and (Zah 4) (Zah 0)))) (Zfr (Za2 pAdd (Za2 pAdd (Zah 2) (Zah 3)) (Zah 2))))) (Zet (e_c (.bl false))) Ze4) (Zcg (s_if (t_or (Zgn (Za2 pNe (Zf4 7 d_Claim_conflicts (Zah 0)) (Zah 2))) (t_or (Zgn (Za2 pNe (Zf4 7 d_Claim_conflicts (Zah 1)) (Zah 3))) (Zgn (e_one 7 d_Claim_eq (Zah 4) (e_make 7 d_Claim_init (Zac (e_call d__law_copied (Zac (Za2 pAdd (Zah 2) (Zah 3)) a_nil)) a_nil)))))) (Zet (e_c (.bl false))) Ze4) (Zcg (Zes (Zah 0) (g_n 5)) (Zcg (Zes (Zjy 7 d_Claim_and (Zah 0) (Zah 1)) (g_n 0)) (Zcg (s_if (t_or (Zgn (Za2 pNe (Zf4 7 d_Claim_conflicts (Zah 5)) (Zah 2))) (Zgn (Za2 pNe (Zf4 7 d_Claim_conflicts (Zah 0)) (Za2 pAdd (Zah 2) (Zah 3))))) (Zet (e_c (.bl false))) Ze4) (Zcg (Zes (Zah 5) (g_n 0)) (Zet (Za2 pEq (e_oeq 7 d_Claim_eq (Zah 4) (Zah 0)) (Za2 pEq (Zah 3) (Ze7 a_nil))))))))))))
theorem ok__law_joined (T : Top K mg ad fdd ct) : FnG P w K mg base 10 (ad 21) (fdd 21) ["_law_claim", "_law_second", "_law_due", "_law_other"] (spF ⟨K, ct, w⟩ FN 4 d__law_joined) :=
  v_defG rfl T.d__law_joined.fn sc__law_joined fun cdv A outer s H E gA hr => (Za1 (Zef 4 sc__law_joined.nd (v_oand rfl T.me_Claim_and T.self_Claim (Zg2 T) T.d_Claim_and.bd (hr.mono (by decide)) Zbu (Zak 0) (Zak 1))) (Za1 (Zif (PW.pt (ww_or (Zkq (o_ne hr.units) Zi2 (Zid rfl T.cls_Claim T.pr_Claim_conflicts (Zch T) (hr.mono (by decide)) T.d_Claim_conflicts.bd Zbu (Zak 4)) (Zed Zfx Zdy (Zak 2) (Zak 3))) (ww_or1 (Zkq (o_ne hr.units) Zi2 (Zg5 (Zdi gA) (u66 hr) rfl rfl T.n_repr (by decide +kernel) (Zid rfl T.cls_Claim T.pr_Claim_conflicts (Zch T) (hr.mono (by decide)) T.d_Claim_conflicts.bd Zbu (v_oand rfl T.me_Claim_and T.self_Claim (Zg2 T) T.d_Claim_and.bd (hr.mono (by decide)) Zbu (Zak 1) (Zak 0)))) (Zg5 (Zdi gA) (u66 hr) rfl rfl T.n_repr (by decide +kernel) (Zed Zfx Zdy (Zak 3) (Zak 2))))))) (Zdc (Zee v_bl)) Zga) (Za1 (Zif (Zkq (o_ne hr.units) Zi2 (Zg5 (Zdi gA) (u66 hr) rfl rfl T.n_repr (by decide +kernel) (Zid rfl T.cls_Claim T.pr_Claim_conflicts (Zch T) (hr.mono (by decide)) T.d_Claim_conflicts.bd Zbu (v_oand rfl T.me_Claim_and T.self_Claim (Zg2 T) T.d_Claim_and.bd (hr.mono (by decide)) Zbu (Zak 4) (Zak 0)))) (Zg5 (Zdi gA) (u66 hr) rfl rfl T.n_repr (by decide +kernel) (Zed Zfx Zdy (Zed Zfx Zdy (Zak 2) (Zak 3)) (Zak 2)))) (Zdc (Zee v_bl)) Zga) (Za1 (Zif (PW.pt (ww_or (Zkq (o_ne hr.units) Zi2 (Zid rfl T.cls_Claim T.pr_Claim_conflicts (Zch T) (hr.mono (by decide)) T.d_Claim_conflicts.bd Zbu (Zak 0)) (Zak 2)) (ww_or (Zkq (o_ne hr.units) Zi2 (Zid rfl T.cls_Claim T.pr_Claim_conflicts (Zch T) (hr.mono (by decide)) T.d_Claim_conflicts.bd Zbu (Zak 1)) (Zak 3)) (ww_or1 (w_one rfl T.neq_Claim T.me_Claim_eq (Zf7 T) T.d_Claim_eq.bd (hr.mono (by decide)) Zbu (Zak 4) (v_make rfl T.mk_Claim (Ze9 T) (hr.mono (by decide)) rfl T.mg_Claim T.d_Claim_init.bd Zbu (Zai Zaz) (Zab (Zdp (Zfh T) (hr.mono (by decide)) rfl T.d__law_copied.mg T.d__law_copied.fn.kp T.d__law_copied.bd Zbu (Zai Zaz) (Zab (Zed Zfx Zdy (Zak 2) (Zak 3)) Zam)) Zam))))))) (Zdc (Zee v_bl)) Zga) (Za1 (Zef 5 sc__law_joined.nd (Zak 0)) (Za1 (vs_augI 0 sc__law_joined.nd rfl T.noin_Claim T.me_Claim_and T.self_Claim (Zg2 T) T.d_Claim_and.bd (hr.mono (by decide)) Zbu (Zak 1)) (Za1 (Zif (PW.pt (ww_or (Zkq (o_ne hr.units) Zi2 (Zid rfl T.cls_Claim T.pr_Claim_conflicts (Zch T) (hr.mono (by decide)) T.d_Claim_conflicts.bd Zbu (Zak 5)) (Zak 2)) (ww_or1 (Zkq (o_ne hr.units) Zi2 (Zid rfl T.cls_Claim T.pr_Claim_conflicts (Zch T) (hr.mono (by decide)) T.d_Claim_conflicts.bd Zbu (Zak 0)) (Zed Zfx Zdy (Zak 2) (Zak 3)))))) (Zdc (Zee v_bl)) Zga) (Za1 (Zef 0 sc__law_joined.nd (Zak 5)) (Zdc (Zee (v_cmp (o_eq hr.units) Zmv (v_oeq rfl T.me_Claim_eq (Zf7 T) T.d_Claim_eq.bd (hr.mono (by decide)) Zbu (Zak 4) (Zak 0)) (v_cmp (o_eq hr.units) Zmv (Zak 3) (Zfl Zam)))))))))))))
theorem sc__law_odd_fact : FnScope Zmw ["_law_purse_here", "_law_fact"] (defScope st__law_odd_fact) := ⟨rfl, rfl, rfl, by decide +kernel, rfl, by decide +kernel, by decide +kernel⟩
noncomputable def d__law_odd_fact : Fn := fnOf 5 (Zcg (Zes (Za2 pIx (Ze7 (Zac (e_c .non) (Zac (e_c (.bl true)) (Zac (e_c (.bl false)) (Zac (e_c (.str "")) (Zac (e_c (.str "A")) (Zac (e_c (.str "abcdefghijk")) (Zac (Zgh a_nil) (Zac (Ze7 a_nil) (Zac (e_c (.int 1)) (Zac (e_neg (e_c (.int 1))) (Zac (Zgh (Zac (e_c (.int 0)) a_nil)) (Zac e_dnew (Zac (e_c (.str "a b")) a_nil)))))))))))))) (e_call d__law_draw (Zac (Zah 0) (Zac (e_c (.int 13)) a_nil)))) (g_n 2)) (Zcg (Zes (Za2 pIx (Ze7 (Zac (e_c .non) (Zac (e_c (.bl true)) (Zac (e_c (.bl false)) (Zac (e_c (.str "")) (Zac (e_c (.str "a")) (Zac (Zgh a_nil) (Zac (Ze7 (Zac (e_c (.int 1)) a_nil)) (Zac e_dnew a_nil))))))))) (e_call d__law_draw (Zac (Zah 0) (Zac (e_c (.int 8)) a_nil)))) (g_n 3)) (Zcg (Zes (Ze7 (Zac (Zgh (Zac (Zah 2) (Zac (Za2 pIx (Zah 1) (e_c (.int 1))) (Zac (Za2 pIx (Zah 1) (e_c (.int 2))) a_nil)))) (Zac (Zgh (Zac (Za2 pIx (Zah 1) (e_c (.int 0))) (Zac (Zah 2) (Zac (Za2 pIx (Zah 1) (e_c (.int 2))) a_nil)))) (Zac (Zgh (Zac (Za2 pIx (Zah 1) (e_c (.int 0))) (Zac (Za2 pIx (Zah 1) (e_c (.int 1))) (Zac (Zah 3) a_nil)))) (Zac (e_sl pSl (Zah 1) o_no (Zjr (e_c (.int 2)))) (Zac (Za2 pAdd (Zah 1) (Zgh (Zac (e_c (.int 0)) a_nil))) a_nil)))))) (g_n 4)) (Zcg (Zes (Za2 pAdd (Zah 4) (Ze7 (Zac (e_cb Zh6 (Zac (Zah 1) a_nil)) (Zac (e_c .non) (Zac (e_c (.int 0)) (Zac (e_c (.str "a")) (Zac (Zgh (Zac (Zah 1) a_nil)) (Zac e_dnew (Zac (Zgh a_nil) (Zac (Zgh (Zac (Zah 2) (Zac (Zah 2) (Zac (Za2 pIx (Zah 1) (e_c (.int 2))) a_nil)))) (Zac (Zgh (Zac (Za2 pIx (Zah 1) (e_c (.int 0))) (Zac (Za2 pIx (Zah 1) (e_c (.int 1))) (Zac (Ze7 (Zac (Za2 pIx (Zah 1) (e_c (.int 2))) a_nil)) a_nil)))) a_nil))))))))))) (g_n 4)) (Zet (Za2 pIx (Zah 4) (e_call d__law_draw (Zac (Zah 0) (Zac (e_cb pLen (Zac (Zah 4) a_nil)) a_nil)))))))))
theorem Zl2 (T : Top K mg ad fdd ct) : FnOk P w K mg base CX0 3 (ad 22) (fdd 22) ["_law_purse_here", "_law_fact"] (spF ⟨K, ct, w⟩ FN 2 d__law_odd_fact) :=
  Zg1 rfl T.d__law_odd_fact.fn sc__law_odd_fact fun cdv A outer s H E hr => (Za1 (Zef 2 sc__law_odd_fact.nd (v_ix rfl (hu_of hr) (Zfl (Zab v_non (Zab v_bl (Zab v_bl (Zab Zfo (Zab Zfo (Zab Zfo (Zab (Zhs Zam) (Zab (Zfl Zam) (Zab Zbn (Zab (v_neg Zbn) (Zab (Zhs (Zab Zbn Zam)) (Zab v_dnew (Zab Zfo Zam)))))))))))))) (Zdp (Zc7 T) (hr.mono (by decide)) rfl T.d__law_draw.mg T.d__law_draw.fn.kp T.d__law_draw.bd Zbu (Zai (Zai Zaz)) (Zab (Zak 0) (Zab Zbn Zam))))) (Za1 (Zef 3 sc__law_odd_fact.nd (v_ix rfl (hu_of hr) (Zfl (Zab v_non (Zab v_bl (Zab v_bl (Zab Zfo (Zab Zfo (Zab (Zhs Zam) (Zab (Zfl (Zab Zbn Zam)) (Zab v_dnew Zam))))))))) (Zdp (Zc7 T) (hr.mono (by decide)) rfl T.d__law_draw.mg T.d__law_draw.fn.kp T.d__law_draw.bd Zbu (Zai (Zai Zaz)) (Zab (Zak 0) (Zab Zbn Zam))))) (Za1 (Zef 4 sc__law_odd_fact.nd (Zfl (Zab (Zhs (Zab (Zak 2) (Zab (v_ix rfl (hu_of hr) (Zak 1) Zbn) (Zab (v_ix rfl (hu_of hr) (Zak 1) Zbn) Zam)))) (Zab (Zhs (Zab (v_ix rfl (hu_of hr) (Zak 1) Zbn) (Zab (Zak 2) (Zab (v_ix rfl (hu_of hr) (Zak 1) Zbn) Zam)))) (Zab (Zhs (Zab (v_ix rfl (hu_of hr) (Zak 1) Zbn) (Zab (v_ix rfl (hu_of hr) (Zak 1) Zbn) (Zab (Zak 3) Zam)))) (Zab (v_sl rfl (Zak 1) vo_no (Zi7 Zbn)) (Zab (Zed Zfx Zdy (Zak 1) (Zhs (Zab Zbn Zam))) Zam))))))) (Za1 (Zef 4 sc__law_odd_fact.nd (Zed Zfx Zdy (Zak 4) (Zfl (Zab (Zk0 (c_list rfl) Zju rfl T.n_list (by decide +kernel) (Zab (Zak 1) Zam)) (Zab v_non (Zab Zbn (Zab Zfo (Zab (Zhs (Zab (Zak 1) Zam)) (Zab v_dnew (Zab (Zhs Zam) (Zab (Zhs (Zab (Zak 2) (Zab (Zak 2) (Zab (v_ix rfl (hu_of hr) (Zak 1) Zbn) Zam)))) (Zab (Zhs (Zab (v_ix rfl (hu_of hr) (Zak 1) Zbn) (Zab (v_ix rfl (hu_of hr) (Zak 1) Zbn) (Zab (Zfl (Zab (v_ix rfl (hu_of hr) (Zak 1) Zbn) Zam)) Zam)))) Zam)))))))))))) (Zdc (Zee (v_ix rfl (hu_of hr) (Zak 4) (Zdp (Zc7 T) (hr.mono (by decide)) rfl T.d__law_draw.mg T.d__law_draw.fn.kp T.d__law_draw.bd Zbu (Zai (Zai Zaz)) (Zab (Zak 0) (Zab (Zfq c_len Zhv rfl T.n_len (by decide +kernel) (Zab (Zak 4) Zam)) Zam))))))))))
theorem sc__law_spoilt : FnScope N__law_spoilt ["_law_purse_here", "_law_groups"] (defScope st__law_spoilt) := ⟨rfl, rfl, rfl, by decide +kernel, rfl, by decide +kernel, by decide +kernel⟩
noncomputable def d__law_spoilt : Fn := fnOf 8 (Zcg (Zes (Ze7 (Zac (Zgh (Zac (e_c (.str "a")) (Zac (e_c (.int 0)) (Zac (e_c (.int 1)) a_nil)))) a_nil)) (g_n 2)) (Zcg (Zes (Za2 pAdd (e_call d__law_copied (Zac (Zah 1) a_nil)) (Ze7 (Zac (Zah 2) a_nil))) (g_n 3)) (Zcg (Zes (e_call d__law_draw (Zac (Zah 0) (Zac (e_cb pLen (Zac (Zah 3) a_nil)) a_nil))) (g_n 4)) (Zcg (Zes (Za2 pIx (Zah 3) (Zah 4)) (g_n 5)) (Zcg (Zes (e_call d__law_draw (Zac (Zah 0) (Zac (e_cb pLen (Zac (Zah 5) a_nil)) a_nil))) (g_n 6)) (Zcg (Zes (Ze7 (Zac (Za2 pAdd (Za2 pAdd (e_sl pSl (Zah 5) o_no (Zjr (Zah 6))) (Ze7 (Zac (e_call d__law_odd_fact (Zac (Zah 0) (Zac (Za2 pIx (Zah 5) (Zah 6)) a_nil))) a_nil))) (e_sl pSl (Zah 5) (Zjr (Za2 pAdd (Zah 6) (e_c (.int 1)))) o_no)) (Zac (Ze7 a_nil) (Zac (e_cb pTuple (Zac (Zah 5) a_nil)) (Zac (e_c .non) (Zac (Za2 pIx (Zah 5) (e_c (.int 0))) a_nil)))))) (g_n 7)) (Zcg (Zes (Za2 pAdd (Zah 7) (Ze7 (Zac (e_c (.int 0)) (Zac (e_c (.str "")) (Zac (Ze7 (Zac (Zah 5) a_nil)) a_nil))))) (g_n 7)) (Zcg (Zes (Za2 pIx (Zah 7) (Za2 pIx (Ze7 (Zac (e_c (.int 0)) (Zac (e_c (.int 0)) (Zac (e_c (.int 0)) (Zac (e_c (.int 0)) (Zac (e_c (.int 1)) (Zac (e_c (.int 2)) (Zac (e_c (.int 3)) (Zac (e_c (.int 4)) (Zac (e_c (.int 5)) (Zac (e_c (.int 6)) (Zac (e_c (.int 7)) a_nil)))))))))))) (e_call d__law_draw (Zac (Zah 0) (Zac (e_c (.int 11)) a_nil))))) (g_n 7)) (Zet (Za2 pAdd (Za2 pAdd (e_sl pSl (Zah 3) o_no (Zjr (Zah 4))) (Ze7 (Zac (Zah 7) a_nil))) (e_sl pSl (Zah 3) (Zjr (Za2 pAdd (Zah 4) (e_c (.int 1)))) o_no)))))))))))
theorem ok__law_spoilt (T : Top K mg ad fdd ct) : FnOk P w K mg base CX0 4 (ad 23) (fdd 23) ["_law_purse_here", "_law_groups"] (spF ⟨K, ct, w⟩ FN 2 d__law_spoilt) :=
  Zg1 rfl T.d__law_spoilt.fn sc__law_spoilt fun cdv A outer s H E hr => (Za1 (Zef 2 sc__law_spoilt.nd (Zfl (Zab (Zhs (Zab Zfo (Zab Zbn (Zab Zbn Zam)))) Zam))) (Za1 (Zef 3 sc__law_spoilt.nd (Zed Zfx Zdy (Zdp (Zfh T) (hr.mono (by decide)) rfl T.d__law_copied.mg T.d__law_copied.fn.kp T.d__law_copied.bd Zbu (Zai Zaz) (Zab (Zak 1) Zam)) (Zfl (Zab (Zak 2) Zam)))) (Za1 (Zef 4 sc__law_spoilt.nd (Zdp (Zc7 T) (hr.mono (by decide)) rfl T.d__law_draw.mg T.d__law_draw.fn.kp T.d__law_draw.bd Zbu (Zai (Zai Zaz)) (Zab (Zak 0) (Zab (Zfq c_len Zhv rfl T.n_len (by decide +kernel) (Zab (Zak 3) Zam)) Zam)))) (Za1 (Zef 5 sc__law_spoilt.nd (v_ix rfl (hu_of hr) (Zak 3) (Zak 4))) (Za1 (Zef 6 sc__law_spoilt.nd (Zdp (Zc7 T) (hr.mono (by decide)) rfl T.d__law_draw.mg T.d__law_draw.fn.kp T.d__law_draw.bd Zbu (Zai (Zai Zaz)) (Zab (Zak 0) (Zab (Zfq c_len Zhv rfl T.n_len (by decide +kernel) (Zab (Zak 5) Zam)) Zam)))) (Za1 (Zef 7 sc__law_spoilt.nd (Zfl (Zab (Zed Zfx Zdy (Zed Zfx Zdy (v_sl rfl (Zak 5) vo_no (Zi7 (Zak 6))) (Zfl (Zab (Zdp (Zl2 T) (hr.mono (by decide)) rfl T.d__law_odd_fact.mg T.d__law_odd_fact.fn.kp T.d__law_odd_fact.bd Zbu (Zai (Zai Zaz)) (Zab (Zak 0) (Zab (v_ix rfl (hu_of hr) (Zak 5) (Zak 6)) Zam))) Zam))) (v_sl rfl (Zak 5) (Zi7 (Zed Zfx Zdy (Zak 6) Zbn)) vo_no)) (Zab (Zfl Zam) (Zab (Zk0 call_tuple_of cas_tuple rfl T.n_tuple (by decide +kernel) (Zab (Zak 5) Zam)) (Zab v_non (Zab (v_ix rfl (hu_of hr) (Zak 5) Zbn) Zam))))))) (Za1 (Zef 7 sc__law_spoilt.nd (Zed Zfx Zdy (Zak 7) (Zfl (Zab Zbn (Zab Zfo (Zab (Zfl (Zab (Zak 5) Zam)) Zam)))))) (Za1 (Zef 7 sc__law_spoilt.nd (v_ix rfl (hu_of hr) (Zak 7) (v_ix rfl (hu_of hr) (Zfl (Zab Zbn (Zab Zbn (Zab Zbn (Zab Zbn (Zab Zbn (Zab Zbn (Zab Zbn (Zab Zbn (Zab Zbn (Zab Zbn (Zab Zbn Zam)))))))))))) (Zdp (Zc7 T) (hr.mono (by decide)) rfl T.d__law_draw.mg T.d__law_draw.fn.kp T.d__law_draw.bd Zbu (Zai (Zai Zaz)) (Zab (Zak 0) (Zab Zbn Zam)))))) (Zdc (Zee (Zed Zfx Zdy (Zed Zfx Zdy (v_sl rfl (Zak 3) vo_no (Zi7 (Zak 4))) (Zfl (Zab (Zak 7) Zam))) (v_sl rfl (Zak 3) (Zi7 (Zed Zfx Zdy (Zak 4) Zbn)) vo_no))))))))))))
theorem sc_law : FnScope N_law ["_law_script"] (defScope st_law) := ⟨rfl, rfl, rfl, by decide +kernel, rfl, by decide +kernel, by decide +kernel⟩
noncomputable def d_law : Fn := fnOf 13 (Zcg (Zes (e_c .non) (g_n 1)) (Zcg (Zm6 FN [11] 1 2 (e_make 7 Ze2 (Zac (e_make 7 d_Claim_init (Zac (Ze7 a_nil) a_nil)) a_nil))) (Zcg (s_if (Zib (Zhz (e_isX [11] 11 (Zah 1)))) (Zet (e_c (.bl false))) Ze4) (Zcg (Ziu (Zhd (Ze7 (Zac (e_c .non) (Zac (e_c (.int 0)) (Zac (e_c (.bl true)) (Zac (e_c (.str "")) (Zac (Zgh a_nil) (Zac e_dnew (Zac (Zgh (Zac (Ze7 (Zac (Zgh (Zac (e_c (.str "a")) (Zac (e_c (.int 0)) (Zac (e_c (.int 1)) a_nil)))) a_nil)) a_nil)) (Zac (Zgh (Zac (e_c (.str "a")) (Zac (e_c (.int 0)) (Zac (e_c (.int 1)) a_nil)))) (Zac (Ze7 (Zac (Zgh (Zac (e_c (.str "a")) (Zac (e_c (.int 0)) (Zac (e_c (.int 1)) a_nil)))) a_nil)) (Zac (e_c (.str "abc")) a_nil)))))))))))) (g_n 3) (s_if (Zib (Zhz (e_call d__law_refused (Zac (Zah 3) a_nil)))) (Zet (e_c (.bl false))) Ze4)) (Zcg (Ziu (n_rng (e_cb pMax (Zac (e_c (.int 1)) (Zac (e_cb pLen (Zac (e_sl pSl (Zah 0) o_no (Zjr (e_c (.int 63)))) a_nil)) a_nil)))) (g_n 4) (Zcg (Zes (e_call d__law_purse (Zac (Zah 0) (Zac (Zah 4) a_nil))) (g_n 5)) (Zcg (Zes (e_lstC (Zac (e_c (.int 0)) a_nil)) (g_n 6)) (Zcg (Ziu (n_rng (e_c (.int 4))) (g_n 7) (s_ex (e_bm isL Zfc (Zah 6) (Zac (e_call d__law_name (Zac (Zah 5) (Zac (Zah 6) a_nil))) a_nil)))) (Zcg (s_par 8 9 (Zac (e_call d__law_facts (Zac (Zah 5) (Zac (Zah 6) a_nil))) (Zac (e_call d__law_facts (Zac (Zah 5) (Zac (Zah 6) a_nil))) a_nil))) (Zcg (Zes (e_call d__law_copied (Zac (Zah 8) a_nil)) (g_n 10)) (Zcg (s_par 11 12 (Zac (e_make 7 d_Claim_init (Zac (Zah 10) a_nil)) (Zac (e_make 7 d_Claim_init (Zac (e_call d__law_copied (Zac (Zah 9) a_nil)) a_nil)) a_nil))) (Zcg (s_if (Zgn (Za2 pNe (Zfr (Zf4 7 d_Claim_conflicts (Zah 11))) (Zfr (Zah 8)))) (Zet (e_c (.bl false))) Ze4) (Zcg (s_ex (e_call d__law_spoil (Zac (Zah 10) a_nil))) (Zcg (s_ex (e_call d__law_spoil (Zac (Zf4 7 d_Claim_conflicts (Zah 11)) a_nil))) (Zcg (s_if (t_or (Zgn (Za2 pNe (Zfr (Zf4 7 d_Claim_conflicts (Zah 11))) (Zfr (Zah 8)))) (t_or (Zib (Zhz (Zny "list" (Zf4 7 d_Claim_conflicts (Zah 11))))) (Zgn (e_oeqL 7 d_Claim_eq (Zah 11) (Zah 8))))) (Zet (e_c (.bl false))) Ze4) (Zcg (s_if (t_or (Zgn (e_one 7 d_Claim_eq (Zah 11) (e_make 7 d_Claim_init (Zac (e_call d__law_copied (Zac (Zah 8) a_nil)) a_nil)))) (t_or (Zgn (Za2 pNe (e_oeq 7 d_Claim_eq (Zah 11) (Zah 12)) (Za2 pEq (Zah 8) (Zah 9)))) (Zib (Zgn (e_oneL 7 d_Claim_eq (Zah 11) (Zah 8)))))) (Zet (e_c (.bl false))) Ze4) (Zcg (s_if (Zib (Zhz (e_call d__law_joined (Zac (Zah 11) (Zac (Zah 12) (Zac (Zah 8) (Zac (Zah 9) a_nil))))))) (Zet (e_c (.bl false))) Ze4) (Ziu (n_rng (e_c (.int 3))) (g_n 7) (s_if (Zib (Zhz (e_call d__law_refused (Zac (e_call d__law_spoilt (Zac (Zah 5) (Zac (Zah 8) a_nil))) a_nil)))) (Zet (e_c (.bl false))) Ze4))))))))))))))) (Zet (e_c (.bl true))))))))
theorem ok_law (T : Top K mg ad fdd ct) : FnG P w K mg base 11 (ad 24) (fdd 24) ["_law_script"] (spF ⟨K, ct, w⟩ FN 1 d_law) :=
  v_defG rfl T.d_law.fn sc_law fun cdv A outer s H E gA hr => (Za1 (Zef 1 sc_law.nd v_non) (Za1 (vs_tryE (i := 1) (j := 2) (L := [11]) rfl T.exm rfl rfl rfl sc_law.nd ⟨rfl, by decide, .inl T.mg_ThemeError⟩ (fun W pn xe tk => (v_makeE rfl T.mk_Claim (Zik T) (hr.mono (by decide)) rfl T.mg_Claim T.d_Claim_init.bd (fun σ => passAt tk σ) (Zai Zaz) (fun _ => (Zab (v_make rfl T.mk_Claim (Ze9 T) (hr.mono (by decide)) rfl T.mg_Claim T.d_Claim_init.bd Zbu (Zai Zaz) (Zab (Zfl Zam) Zam)) Zam))))) (Za1 (Zif (w_not (Zn5 rfl (v_isX (L := [11]) (c := 11) rfl ⟨T.no_InvalidClaim, fun k h => ⟨T.exs k h, T.kx_InvalidClaim k h⟩⟩ rfl T.n_isinstance rfl T.er_InvalidClaim.er.mgC (Zak 1)))) (Zdc (Zee v_bl)) Zga) (Za1 (Zj3 PassesOwn.never rfl (Zkf rfl (Zfl (Zab v_non (Zab Zbn (Zab v_bl (Zab Zfo (Zab (Zhs Zam) (Zab v_dnew (Zab (Zhs (Zab (Zfl (Zab (Zhs (Zab Zfo (Zab Zbn (Zab Zbn Zam)))) Zam)) Zam)) (Zab (Zhs (Zab Zfo (Zab Zbn (Zab Zbn Zam)))) (Zab (Zfl (Zab (Zhs (Zab Zfo (Zab Zbn (Zab Zbn Zam)))) Zam)) (Zab Zfo Zam)))))))))))) (vg_n 3 sc_law.nd) (Zdc (Zif (w_not (Zn5 rfl (v_callG (Zii T) (Zdi gA) (hr.mono (by decide)) rfl T.d__law_refused.mg T.d__law_refused.fn.kp T.d__law_refused.bd (Zai Zaz) (Zab (Zak 3) Zam)))) (Zdc (Zee v_bl)) Zga))) (Za1 (Zj3 PassesOwn.never rfl (Zmo rfl T.n_range (Zfq (c_max rfl) cas_max rfl T.n_max (by decide +kernel) (Zab Zbn (Zab (Zfq c_len Zhv rfl T.n_len (by decide +kernel) (Zab (v_sl rfl (Zak 0) vo_no (Zi7 Zbn)) Zam)) Zam)))) (vg_n 4 sc_law.nd) (Za1 (Zef 5 sc_law.nd (Zdp (ok__law_purse T) (hr.mono (by decide)) rfl T.d__law_purse.mg T.d__law_purse.fn.kp T.d__law_purse.bd Zbu (Zai (Zai Zaz)) (Zab (Zak 0) (Zab (Zak 4) Zam)))) (Za1 (Zef 6 sc_law.nd (Zfl (Zab Zbn Zam))) (Za1 (Zj3 PassesOwn.never rfl (Zmo rfl T.n_range Zbn) (vg_n 7 sc_law.nd) (Zdc (vs_ex (v_bm rfl PySem.F.plainAttrs_list PySem.F.slot_list_append PySem.F.type_list_append mt_append Zip Zgr (Zak 6) (Zab (Zdp (ok__law_name T) (hr.mono (by decide)) rfl T.d__law_name.mg T.d__law_name.fn.kp T.d__law_name.bd Zbu (Zai (Zai Zaz)) (Zab (Zak 5) (Zab (Zak 6) Zam))) Zam))))) (Za1 (vs_par 8 9 rfl sc_law.nd (Zab (Zdp (Zkb T) (hr.mono (by decide)) rfl T.d__law_facts.mg T.d__law_facts.fn.kp T.d__law_facts.bd Zbu (Zai (Zai Zaz)) (Zab (Zak 5) (Zab (Zak 6) Zam))) (Zab (Zdp (Zkb T) (hr.mono (by decide)) rfl T.d__law_facts.mg T.d__law_facts.fn.kp T.d__law_facts.bd Zbu (Zai (Zai Zaz)) (Zab (Zak 5) (Zab (Zak 6) Zam))) Zam))) (Za1 (Zef 10 sc_law.nd (Zdp (Zfh T) (hr.mono (by decide)) rfl T.d__law_copied.mg T.d__law_copied.fn.kp T.d__law_copied.bd Zbu (Zai Zaz) (Zab (Zak 8) Zam))) (Za1 (vs_par 11 12 rfl sc_law.nd (Zab (v_make rfl T.mk_Claim (Ze9 T) (hr.mono (by decide)) rfl T.mg_Claim T.d_Claim_init.bd Zbu (Zai Zaz) (Zab (Zak 10) Zam)) (Zab (v_makeK rfl T.mk_Claim (Ze9 T) (hr.mono (by decide)) rfl T.mg_Claim (binds_kw1 (ks := ["conflicts"]) T.d_Claim_init.fn fun _ _ _ _ _ _ us ws hu hw => match us, hu, ws, hw with | [_], _, [_], _ => rfl) Zbu (Zai Zaz) rfl (vk_cons (Zdp (Zfh T) (hr.mono (by decide)) rfl T.d__law_copied.mg T.d__law_copied.fn.kp T.d__law_copied.bd Zbu (Zai Zaz) (Zab (Zak 9) Zam)) vk_nil)) Zam))) (Za1 (Zif (Zkq (o_ne hr.units) Zi2 (Zg5 (Zdi gA) (u66 hr) rfl rfl T.n_repr (by decide +kernel) (Zid rfl T.cls_Claim T.pr_Claim_conflicts (Zch T) (hr.mono (by decide)) T.d_Claim_conflicts.bd Zbu (Zak 11))) (Zg5 (Zdi gA) (u66 hr) rfl rfl T.n_repr (by decide +kernel) (Zak 8))) (Zdc (Zee v_bl)) Zga) (Za1 (vs_ex (Zdp (Zke T) (hr.mono (by decide)) rfl T.d__law_spoil.mg T.d__law_spoil.fn.kp T.d__law_spoil.bd Zbu (Zai Zaz) (Zab (Zak 10) Zam))) (Za1 (vs_ex (Zdp (Zke T) (hr.mono (by decide)) rfl T.d__law_spoil.mg T.d__law_spoil.fn.kp T.d__law_spoil.bd Zbu (Zai Zaz) (Zab (Zid rfl T.cls_Claim T.pr_Claim_conflicts (Zch T) (hr.mono (by decide)) T.d_Claim_conflicts.bd Zbu (Zak 11)) Zam))) (Za1 (Zif (PW.pt (ww_or (Zkq (o_ne hr.units) Zi2 (Zg5 (Zdi gA) (u66 hr) rfl rfl T.n_repr (by decide +kernel) (Zid rfl T.cls_Claim T.pr_Claim_conflicts (Zch T) (hr.mono (by decide)) T.d_Claim_conflicts.bd Zbu (Zak 11))) (Zg5 (Zdi gA) (u66 hr) rfl rfl T.n_repr (by decide +kernel) (Zak 8))) (ww_or (w_not (Zn5 rfl (v_isT rfl Zmc rfl T.n_isinstance rfl T.n_list (by decide +kernel) (Zid rfl T.cls_Claim T.pr_Claim_conflicts (Zch T) (hr.mono (by decide)) T.d_Claim_conflicts.bd Zbu (Zak 11))))) (ww_or1 (w_oeqL rfl T.nsub_Claim T.me_Claim_eq (Zf7 T) T.d_Claim_eq.bd (hr.mono (by decide)) Zbu (Zak 11) (Zak 8)))))) (Zdc (Zee v_bl)) Zga) (Za1 (Zif (PW.pt (ww_or (w_one rfl T.neq_Claim T.me_Claim_eq (Zf7 T) T.d_Claim_eq.bd (hr.mono (by decide)) Zbu (Zak 11) (v_make rfl T.mk_Claim (Ze9 T) (hr.mono (by decide)) rfl T.mg_Claim T.d_Claim_init.bd Zbu (Zai Zaz) (Zab (Zdp (Zfh T) (hr.mono (by decide)) rfl T.d__law_copied.mg T.d__law_copied.fn.kp T.d__law_copied.bd Zbu (Zai Zaz) (Zab (Zak 8) Zam)) Zam))) (ww_or (Zkq (o_ne hr.units) Zi2 (v_oeq rfl T.me_Claim_eq (Zf7 T) T.d_Claim_eq.bd (hr.mono (by decide)) Zbu (Zak 11) (Zak 12)) (v_cmp (o_eq hr.units) Zmv (Zak 8) (Zak 9))) (ww_or1 (w_not (w_oneL rfl T.nsub_Claim T.neq_Claim T.me_Claim_eq (Zf7 T) T.d_Claim_eq.bd (hr.mono (by decide)) Zbu (Zak 11) (Zak 8))))))) (Zdc (Zee v_bl)) Zga) (Za1 (Zif (w_not (Zn5 rfl (v_callG (ok__law_joined T) (Zdi gA) (hr.mono (by decide)) rfl T.d__law_joined.mg T.d__law_joined.fn.kp T.d__law_joined.bd (Zai (Zai (Zai (Zai Zaz)))) (Zab (Zak 11) (Zab (Zak 12) (Zab (Zak 8) (Zab (Zak 9) Zam))))))) (Zdc (Zee v_bl)) Zga) (Zdc (Zj3 PassesOwn.never rfl (Zmo rfl T.n_range Zbn) (vg_n 7 sc_law.nd) (Zdc (Zif (w_not (Zn5 rfl (v_callG (Zii T) (Zdi gA) (hr.mono (by decide)) rfl T.d__law_refused.mg T.d__law_refused.fn.kp T.d__law_refused.bd (Zai Zaz) (Zab (Zdp (ok__law_spoilt T) (hr.mono (by decide)) rfl T.d__law_spoilt.mg T.d__law_spoilt.fn.kp T.d__law_spoilt.bd Zbu (Zai (Zai Zaz)) (Zab (Zak 5) (Zab (Zak 8) Zam))) Zam)))) (Zdc (Zee v_bl)) Zga))))))))))))))))) (Zdc (Zee v_bl)))))))
end
end Pr
namespace Pr
open PySem L2 Vs
/-! The trees' readings of the defs that several laws share. -/
noncomputable def Zfs : DFn := Ze8 1 (Zar (Zf6 (Zic (Zf0 (Zf2 (Zhm "str" (Zad 0)))) (Zem (Zap yGt (x_cb yLen (Zaa (Zad 0) Zaf)) (x_c (.int 10))))) (Zde (x_c (.bl false))) Zei) (Zde (Zix (x_bm0 isST (yStr Txt.isascii) (Zad 0)) (Zix (x_bm0 isST (yStr Txt.isalpha) (Zad 0)) (x_bm0 isST (yStr Txt.islower) (Zad 0))))))
noncomputable def Zfm : DFn := Ze8 1 (Zde (Zix (Zhm "int" (Zad 0)) (x_not (Zhm "bool" (Zad 0)))))
noncomputable def Zh5 : DFn := Ze8 4 (Zar (Zb4 (Zap yAdd (Zap yMul (Zad 0) (x_c (.int 69069))) (Zap yMul (Zap yMul (x_c (.int 104729)) (Zad 1)) (Zad 1))) (xg_n 3)) (Zar (Zb4 (Zap yMod (Zap yAdd (Zap yAdd (Zad 3) (Zap yMul (x_c (.int 7919)) (Zad 2))) (Zad 1)) (x_c (.int 2147483647))) (xg_n 3)) (Zar (Zb4 (Zap yMod (Zap yAdd (Zap yMul (Zad 3) (Zad 3)) (x_c (.int 40503))) (x_c (.int 2147483629))) (xg_n 3)) (Zde (Zap yMod (Zap yMul (Zad 3) (x_c (.int 48271))) (x_c (.int 2147483587)))))))
noncomputable def Zeq : DFn := Ze8 5 (Zar (Zf6 (Zem (Zap yGt (Zap yIx (Zad 0) (x_c (.int 0))) (x_c (.int 0)))) (Zar (Zb4 (Zap yMod (Zap yIx (Zad 0) (x_c (.int 0))) (Zad 1)) (xg_n 2)) (Zar (xs_st Zmj (Zap yDiv (Zap yIx (Zad 0) (x_c (.int 0))) (Zad 1)) (Zad 0) (x_c (.int 0))) (Zde (Zad 2)))) Zei) (Zar (Zb4 (x_c (.int 0)) (xg_n 3)) (Zar (Zf3 (Zgu (Zap yAdd (x_c (.int 1)) (Zap yDiv (x_bits (Zad 1)) (x_c (.int 28))))) (xg_n 4) (Zar (xs_st Zmj (Zap yAdd (Zap yIx (Zad 0) (x_c (.int 2))) (x_c (.int 1))) (Zad 0) (x_c (.int 2))) (Zb4 (Zap yAdd (Zap yMul (Zad 3) (x_c (.int 2147483587))) (Zbs Zh5 (Zaa (Zap yIx (Zad 0) (x_c (.int 1))) (Zaa (Zap yIx (Zad 0) (x_c (.int 2))) (Zaa (Zap yIx (Zad 0) (x_c (.int 3))) Zaf))))) (xg_n 3)))) (Zde (Zap yMod (Zad 3) (Zad 1))))))
noncomputable def Zm9 : DFn := Ze8 8 (Zar (Zb4 (x_words (x_c (.str "z zz free if max min set add seal plus sealed choice extend number"))) (xg_n 2)) (Zar (Zb4 (x_c (.str "")) (xg_n 3)) (Zar (Zf3 (Zgu (Zap yIx (Zej (Zaa (x_c (.int 1)) (Zaa (x_c (.int 1)) (Zaa (x_c (.int 2)) (Zaa (x_c (.int 3)) (Zaa (x_c (.int 10)) Zaf)))))) (Zbs Zeq (Zaa (Zad 0) (Zaa (x_c (.int 5)) Zaf))))) (xg_n 4) (Zb4 (Zap yAdd (Zad 3) (Zap yIx (x_c (.str "abcdefghijklmnopqrstuvwxyz")) (Zbs Zeq (Zaa (Zad 0) (Zaa (x_c (.int 26)) Zaf))))) (xg_n 3))) (Zar (Zb4 (Zap yIx (Zej (Zaa (Zad 3) (Zaa (Zad 3) (Zaa (Zad 3) (Zaa (Zad 3) (Zaa (Zap yIx (Zad 2) (Zbs Zeq (Zaa (Zad 0) (Zaa (x_c (.int 2)) Zaf)))) (Zaa (Zap yIx (Zad 2) (Zbs Zeq (Zaa (Zad 0) (Zaa (x_c (.int 14)) Zaf)))) Zaf))))))) (Zbs Zeq (Zaa (Zad 0) (Zaa (x_c (.int 6)) Zaf)))) (xg_n 3)) (Zar (Zb4 (Zap yAdd (Zej (Zaa (Zad 3) Zaf)) (x_lc (xn_str (x_c (.str "mnopqrstuvwx"))) (xg_n 6) Zfw (Zap yAdd (Zad 6) (x_sl (Zad 3) Ziv (Zft (x_c (.int 9))))) [6])) (xg_n 5)) (Zde (Zap yIx (x_lc (Zff (Zad 5)) (xg_n 7) (Zem (Zap (yIn true) (Zad 7) (Zad 1))) (Zad 7) [7]) (x_c (.int 0)))))))))
noncomputable def Zjk : DFn := Ze8 3 (Zde (x_lcF (Zad 1) (xg_n 2) (Zem (Zap yEq (Zbs Zeq (Zaa (Zad 0) (Zaa (x_c (.int 2)) Zaf))) (x_c (.int 0)))) (Zad 2) [2]))
noncomputable def Zjs : DFn := Ze8 7 (Zar (Zb4 (Zap yAdd (Zbs Zjk (Zaa (Zad 0) (Zaa (Zad 2) Zaf))) (Zej (Zaa (Zap yIx (Zad 2) (Zbs Zeq (Zaa (Zad 0) (Zaa (x_cb yLen (Zaa (Zad 2) Zaf)) Zaf)))) Zaf))) (xg_n 3)) (Zar (Zb4 (x_lc (xn_enu (Zad 3)) (xg_tup 2 (xg_cons (xg_n 5) (xg_cons (xg_n 6) xg_nil))) (Zem (Zap (yIn true) (Zad 6) (x_sl (Zad 3) Ziv (Zft (Zad 5))))) (Zad 6) [5, 6]) (xg_n 3)) (Zar (Zb4 (Zap yIx (Zad 3) (Zbs Zeq (Zaa (Zad 0) (Zaa (x_cb yLen (Zaa (Zad 3) Zaf)) Zaf)))) (xg_n 4)) (Zde (Zep (Zaa (Zad 1) (Zaa (Zep (Zaa (x_c (.str "choice")) (Zaa (Zad 3) Zaf))) (Zaa (Zep (Zaa (x_c (.str "plus")) (Zaa (Zad 4) (Zaa (x_c (.int 0)) Zaf)))) Zaf))))))))
end Pr
namespace Pr
open PySem L2 Vs
/-! The trees' readings of the defs of the second family of laws. -/
noncomputable def Zgq : DFn := dfnOf1 3 (Zar (Zb4 (x_cb ySum (Zaa (x_sl (Zad 0) (Zft (Zad 1)) (Zft (Zap yAdd (Zad 1) (x_c (.int 1))))) Zaf)) (xg_n 2)) (Zde (Zi3 (Zaa (Zap yMod (x_cb yMax (Zaa (Zap ySub (Zad 2) (Zap yPow (x_c (.int 10)) (x_c (.int 18)))) (Zaa (x_c (.int 0)) Zaf))) (Zap yPow (Zap yPow (x_c (.int 10)) (x_c (.int 60))) (x_c (.int 8)))) (Zaa (Zap yMod (Zad 2) (x_c (.int 2147483629))) (Zaa (Zap yMul (x_c (.int 1000)) (Zad 1)) Zaf))))))
noncomputable def Zgp : DFn := Ze8 3 (Zar (Zb4 (Zap yMod (Zap yAdd (Zap yAdd (Zap yMul (Zad 0) (x_c (.int 69069))) (Zap yMul (Zap yMul (x_c (.int 104729)) (Zad 1)) (Zad 1))) (Zad 1)) (x_c (.int 2147483647))) (xg_n 2)) (Zar (Zb4 (Zap yMod (Zap yAdd (Zap yMul (Zad 2) (Zad 2)) (x_c (.int 40503))) (x_c (.int 2147483629))) (xg_n 2)) (Zde (Zap yMod (Zap yMul (Zad 2) (x_c (.int 48271))) (x_c (.int 2147483587))))))
noncomputable def Zba : DFn := Ze8 5 (Zar (Zf6 (Zem (Zap yGt (Zap yIx (Zad 0) (x_c (.int 0))) (x_c (.int 0)))) (Zar (Zb4 (Zap yMod (Zap yIx (Zad 0) (x_c (.int 0))) (Zad 1)) (xg_n 2)) (Zar (xs_st Zmj (Zap yDiv (Zap yIx (Zad 0) (x_c (.int 0))) (Zad 1)) (Zad 0) (x_c (.int 0))) (Zde (Zad 2)))) Zei) (Zar (Zb4 (x_c (.int 0)) (xg_n 3)) (Zar (Zf3 (Zgu (Zap yAdd (x_c (.int 1)) (Zap yDiv (x_bits (Zad 1)) (x_c (.int 28))))) (xg_n 4) (Zar (xs_st Zmj (Zap yAdd (Zap yIx (Zad 0) (x_c (.int 2))) (x_c (.int 1))) (Zad 0) (x_c (.int 2))) (Zb4 (Zap yAdd (Zap yMul (Zad 3) (x_c (.int 2147483587))) (Zbs Zgp (Zaa (Zap yIx (Zad 0) (x_c (.int 1))) (Zaa (Zap yIx (Zad 0) (x_c (.int 2))) Zaf)))) (xg_n 3)))) (Zde (Zap yMod (Zad 3) (Zad 1))))))
noncomputable def Zgb : DFn := Ze8 9 (Zar (Zb4 (x_c (.str "abcdefghijklmnopqrstuvwxyz")) (xg_n 2)) (Zar (Zb4 (Zap yIx (Zad 2) (Zbs Zba (Zaa (Zad 0) (Zaa (x_c (.int 26)) Zaf)))) (xg_n 3)) (Zar (Zf3 (Zgu (Zap yIx (Zej (Zaa (x_c (.int 0)) (Zaa (x_c (.int 0)) (Zaa (x_c (.int 1)) (Zaa (x_c (.int 9)) Zaf))))) (Zbs Zba (Zaa (Zad 0) (Zaa (x_c (.int 4)) Zaf))))) (xg_n 4) (Zb4 (Zap yAdd (Zad 3) (Zap yIx (Zad 2) (Zbs Zba (Zaa (Zad 0) (Zaa (x_c (.int 26)) Zaf))))) (xg_n 3))) (Zar (Zb4 (Zej (Zaa (x_c (.str "free")) (Zaa (x_c (.str "sealed")) (Zaa (x_c (.str "choice")) (Zaa (x_c (.str "extend")) (Zaa (x_c (.str "number")) (Zaa (x_c (.str "plus")) (Zaa (x_c (.str "max")) (Zaa (x_c (.str "min")) (Zaa (x_c (.str "if")) (Zaa (x_c (.str "set")) (Zaa (x_c (.str "case")) (Zaa (x_c (.str "ring")) Zaf))))))))))))) (xg_n 5)) (Zar (Zb4 (Zap yIx (Zej (Zaa (Zad 3) (Zaa (Zad 3) (Zaa (Zad 3) (Zaa (Zad 3) (Zaa (Zap yIx (Zad 5) (Zbs Zba (Zaa (Zad 0) (Zaa (x_c (.int 12)) Zaf)))) Zaf)))))) (Zbs Zba (Zaa (Zad 0) (Zaa (x_c (.int 5)) Zaf)))) (xg_n 3)) (Zar (Zb4 (Zap yAdd (Zej (Zaa (Zad 3) Zaf)) (x_lc (xn_str (x_sl (Zad 2) (Zft (x_c (.int 13))) Ziv)) (xg_n 7) Zfw (Zap yAdd (Zad 7) (x_sl (Zad 3) Ziv (Zft (x_c (.int 9))))) [7])) (xg_n 6)) (Zde (Zap yIx (x_lc (Zff (Zad 6)) (xg_n 8) (Zem (Zap (yIn true) (Zad 8) (Zad 1))) (Zad 8) [8]) (x_c (.int 0))))))))))
noncomputable def Ze0 : DFn := Ze8 2 (Zar (Zb4 (Zap yIx (Zej (Zaa (x_c (.int 4)) (Zaa (x_c (.int 4)) (Zaa (x_c (.int 4)) (Zaa (x_c (.int 4)) (Zaa (x_c (.int 100)) (Zaa (Zap yPow (x_c (.int 10)) (x_c (.int 6))) (Zaa (Zap yPow (x_c (.int 10)) (x_c (.int 38))) Zaf)))))))) (Zbs Zba (Zaa (Zad 0) (Zaa (x_c (.int 7)) Zaf)))) (xg_n 1)) (Zde (Zap ySub (Zbs Zba (Zaa (Zad 0) (Zaa (Zap yAdd (Zap yMul (x_c (.int 2)) (Zad 1)) (x_c (.int 1))) Zaf))) (Zad 1))))
end Pr
/-! Running denotations over trees. -/
namespace Vs
open PySem L2
noncomputable def wp {α : Type} (r : Rd α) (P : α → Sd → Prop) : Prop := match r with
  | .ok a s => P a s
  | _ => False
theorem Zb7 {α β : Type} (r : Rd α) (k : α → Sd → Rd β) (P : β → Sd → Prop) : wp (r.bind k) P = wp r (fun a s => wp (k a s) P) := by cases r <;> rfl
theorem Zdd {α : Type} (a : α) (s : Sd) (P : α → Sd → Prop) : wp (.ok a s) P = P a s := (Eq.refl _).trans rfl
theorem Zb5 {α : Type} (P : α → Sd → Prop) : wp .bad P = False := (Eq.refl _).trans rfl
theorem Zas {α : Type} {r : Rd α} {P Q : α → Sd → Prop} (h : wp r P) (i : ∀ a s, P a s → Q a s) : wp r Q := by
  cases r with
  | ok a s => exact i a s h
  | exc n t s => exact h
  | bad => exact h
theorem Zlm {α : Type} {r : Rd α} {P : α → Sd → Prop} (h : wp r P) : ∃ a s, r = .ok a s ∧ P a s := by
  cases r with
  | ok a s => exact ⟨a, s, rfl, h⟩
  | exc n t s => exact h.elim
  | bad => exact h.elim
theorem wp_if {α : Type} (c : Prop) [Decidable c] (a b : Rd α) (P : α → Sd → Prop) : wp (if c then a else b) P = if c then wp a P else wp b P := by split <;> rfl
/-! ### operators -/
section
variable (i j : Int) (a b : Str) (s : Sd) (P : T → Sd → Prop)
theorem Zkh (c : Prop) [Decidable c] (t : T) : wp (Zbw (if c then some (t, s) else none)) P = (c ∧ P t s) := by
  by_cases h : c
  · rw [if_pos h]; exact propext ⟨fun q => ⟨h, q⟩, fun q => q.2⟩
  · rw [if_neg h]; exact propext ⟨fun q => False.elim q, fun q => h q.1⟩
theorem Zc2 : wp (Zbw (ySub (.int i) (.int j) s)) P = P (.int (i - j)) s := (Eq.refl _).trans rfl
theorem Zcp : wp (Zbw (yMul (.int i) (.int j) s)) P = (cMul i j = true ∧ P (.int (i * j)) s) := Zkh s P _ _
theorem Zc3 : wp (Zbw (yDiv (.int i) (.int j) s)) P = (cDiv i j = true ∧ P (.int (i / j)) s) := Zkh s P _ _
theorem Zcy : wp (Zbw (yMod (.int i) (.int j) s)) P = (0 < j ∧ P (.int (i % j)) s) := by
  refine (Zkh s P (decide (0 < j) = true) (.int (i % j))).trans ?_
  exact congrArg (fun c : Prop => c ∧ P (.int (i % j)) s) (propext decide_eq_true_iff)
theorem Zcu : wp (Zbw (yPow (.int i) (.int j) s)) P = (cPow i j = true ∧ P (.int (i ^ j.toNat)) s) := Zkh s P _ _
theorem Zd3 : wp (Zbw (yLt (.int i) (.int j) s)) P = P (.bl (decide (i < j))) s := (Eq.refl _).trans rfl
theorem Zd5 : wp (Zbw (yLe (.int i) (.int j) s)) P = P (.bl (decide (i ≤ j))) s := (Eq.refl _).trans rfl
theorem Zd2 : wp (Zbw (yGt (.int i) (.int j) s)) P = P (.bl (decide (j < i))) s := (Eq.refl _).trans rfl
theorem Zeb : wp (Zbw (yGe (.int i) (.int j) s)) P = P (.bl (decide (j ≤ i))) s := (Eq.refl _).trans rfl
theorem Za9 : wp (Zbw (yAdd (.int i) (.int j) s)) P = P (.int (i + j)) s := (Eq.refl _).trans rfl
theorem wp_addS : wp (Zbw (yAdd (.str a) (.str b) s)) P = (a.length + b.length ≤ LIM ∧ P (.str (a ++ b)) s) := Zkh s P _ _
theorem Zhc (xs ys : List T) : wp (Zbw (yAdd (.lst xs) (.lst ys) s)) P = (xs.length + ys.length ≤ LIM ∧ P (.lst (xs ++ ys)) s) := Zkh s P _ _
theorem Zci : wp (Zbw (yEq (.int i) (.int j) s)) P = P (.bl (decide (i = j))) s := by
  have e : decide (W.int i = W.int j) = decide (i = j) := by by_cases h : i = j <;> simp [h]
  show P (.bl (decide (W.int i = W.int j))) s = _
  rw [e]
theorem Zcj : wp (Zbw (yEq (.str a) (.str b) s)) P = P (.bl (decide (a = b))) s := by
  have e : decide (W.str a = W.str b) = decide (a = b) := by by_cases h : a = b <;> simp [h]
  show P (.bl (decide (W.str a = W.str b))) s = _
  rw [e]
theorem Zct : wp (Zbw (yNe (.int i) (.int j) s)) P = P (.bl (!decide (i = j))) s := by
  have e : decide (W.int i = W.int j) = decide (i = j) := by by_cases h : i = j <;> simp [h]
  show P (.bl (!decide (W.int i = W.int j))) s = _
  rw [e]
theorem Zcm : wp (Zbw (yNe (.str a) (.str b) s)) P = P (.bl (!decide (a = b))) s := by
  have e : decide (W.str a = W.str b) = decide (a = b) := by by_cases h : a = b <;> simp [h]
  show P (.bl (!decide (W.str a = W.str b))) s = _
  rw [e]
theorem Zbh : wp (Zbw (yIsN .non .non s)) P = P (.bl true) s := (Eq.refl _).trans rfl
theorem Zbl : wp (Zbw (yIsN (.int i) .non s)) P = P (.bl false) s := (Eq.refl _).trans rfl
theorem Zaw : wp (Zbw (yNotN .non .non s)) P = P (.bl false) s := (Eq.refl _).trans rfl
theorem Zau : wp (Zbw (yNotN (.int i) .non s)) P = P (.bl true) s := (Eq.refl _).trans rfl
theorem ix_at {x : T} {ts : List T} {t : T} {n : Nat} {s : Sd} {P : T → Sd → Prop} (h : ob s x = some (.lst ts) ∨ ob s x = some (.tup ts)) (e : ts[n]? = some t) (q : P t s) : wp (Zbw (yIx x (.int (n : Int)) s)) P := by
  have hl : n < ts.length := (List.getElem?_eq_some_iff.mp e).1
  have a : atI ts (n : Int) = some t := by
    unfold atI ixN
    rw [if_pos (by omega), if_pos (by omega)]
    exact e
  have key : yIx x (.int (n : Int)) s = some (t, s) := by
    unfold yIx
    rcases h with h | h <;> simp [h, seqT, intT, a]
  rw [key]
  exact q
theorem Zgl {x : T} {ts : List T} {r : Int} {s : Sd} {P : T → Sd → Prop} (h : ob s x = some (.lst ts) ∨ ob s x = some (.tup ts)) (h0 : 0 ≤ r) (h1 : r < ts.length) (q : ∀ t ∈ ts, P t s) : wp (Zbw (yIx x (.int r) s)) P := by
  obtain ⟨n, rfl⟩ := Int.eq_ofNat_of_zero_le h0
  have hl : n < ts.length := by omega
  exact ix_at h (List.getElem?_eq_getElem hl) (q _ (List.getElem_mem hl))
variable (t u v z w : T) (r : List T)
theorem Zbb : wp (Zbw (yIx (.tup (t :: r)) (.int 0) s)) P = P t s := by
  show wp (Zbw ((atI (t :: r) 0).map fun t => (t, s))) P = _
  unfold atI ixN
  rw [if_pos (by omega), if_pos (by simp only [List.length_cons]; omega)]
  rfl
theorem Za8 : wp (Zbw (yIx (.lst (t :: r)) (.int 0) s)) P = P t s := by
  show wp (Zbw ((atI (t :: r) 0).map fun t => (t, s))) P = _
  unfold atI ixN
  rw [if_pos (by omega), if_pos (by simp only [List.length_cons]; omega)]
  rfl
theorem Zbc : wp (Zbw (yIx (.tup (u :: t :: r)) (.int 1) s)) P = P t s := by
  show wp (Zbw ((atI (u :: t :: r) 1).map fun t => (t, s))) P = _
  unfold atI ixN
  rw [if_pos (by omega), if_pos (by simp only [List.length_cons]; omega)]
  rfl
theorem Zbd : wp (Zbw (yIx (.tup (u :: v :: t :: r)) (.int 2) s)) P = P t s := by
  show wp (Zbw ((atI (u :: v :: t :: r) 2).map fun t => (t, s))) P = _
  unfold atI ixN
  rw [if_pos (by omega), if_pos (by simp only [List.length_cons]; omega)]
  rfl
theorem Zbi : wp (Zbw (yIx (.tup (u :: v :: z :: t :: r)) (.int 3) s)) P = P t s := by
  show wp (Zbw ((atI (u :: v :: z :: t :: r) 3).map fun t => (t, s))) P = _
  unfold atI ixN
  rw [if_pos (by omega), if_pos (by simp only [List.length_cons]; omega)]
  rfl
theorem Zbj : wp (Zbw (yIx (.tup (u :: v :: z :: w :: t :: r)) (.int 4) s)) P = P t s := by
  show wp (Zbw ((atI (u :: v :: z :: w :: t :: r) 4).map fun t => (t, s))) P = _
  unfold atI ixN
  rw [if_pos (by omega), if_pos (by simp only [List.length_cons]; omega)]
  rfl
end
/-- what follows a statement -/
noncomputable def wpm (k : Ed → Sd → Prop) (P : DFl → Sd → Prop) (s : Sd) : DFl → Prop
  | .nx d => k d s
  | f => P f s
section
variable (δ : Ed) (s : Sd) (P : T → Sd → Prop) (PA : List T → Sd → Prop) (PT : Bool → Sd → Prop) (PS : DFl → Sd → Prop) (PO : Option Int → Sd → Prop) (a b : DE) (r : DA) (i : Nat) (t u : DTm) (p q : DSt)
theorem Za0 (k : Ed → Sd → Prop) (d : Ed) : wpm k PS s (.nx d) = k d s := (Eq.refl _).trans rfl
theorem Zcc (k : Ed → Sd → Prop) (x : T) : wpm k PS s (.rt x) = PS (.rt x) s := (Eq.refl _).trans rfl
theorem Zc0 (k : Ed → Sd → Prop) (d : Ed) : wpm k PS s (.bk d) = PS (.bk d) s := (Eq.refl _).trans rfl
theorem Zcv (k : Ed → Sd → Prop) (d : Ed) : wpm k PS s (.ct d) = PS (.ct d) s := (Eq.refl _).trans rfl
noncomputable def atE (δ : Ed) (i : Nat) : Option T := (δ[i]?).bind id
noncomputable def wpo (P : T → Prop) : Option T → Prop
  | some t => P t
  | none => False
theorem Zd8 (Q : T → Prop) (x : T) : wpo Q (some x) = Q x := (Eq.refl _).trans rfl
theorem Zec (x : T) (d : Ed) : atE (some x :: d) 0 = some x := (Eq.refl _).trans rfl
theorem Zd9 (x : Option T) (d : Ed) (n : Nat) : atE (x :: d) (n + 1) = atE d n := (Eq.refl _).trans rfl
theorem Zcq : wp (Zad i δ s) P = wpo (fun x => P x s) (atE δ i) := by
  unfold Zad atE
  cases δ[i]? with
  | none => rfl
  | some o => cases o <;> rfl
theorem wx_c (x : T) : wp (x_c x δ s) P = P x s := (Eq.refl _).trans rfl
theorem Zay (op : DP2) : wp (Zap op a b δ s) P = wp (a δ s) fun x s1 => wp (b δ s1) fun y s2 => wp (Zbw (op x y s2)) P := by unfold Zap; simp only [Zb7]
theorem Zan : wp (Zaf δ s) PA = PA [] s := (Eq.refl _).trans rfl
theorem Zag : wp (Zaa a r δ s) PA = wp (a δ s) fun x s1 => wp (r δ s1) fun xs s2 => PA (x :: xs) s2 := by unfold Zaa; simp only [Zb7, Zdd]
theorem Zcl : wp (Zep r δ s) P = wp (r δ s) fun xs s1 => xs.length ≤ LIM ∧ P (.tup xs) s1 := by
  unfold Zep; simp only [Zb7, wp_if, Zdd, Zb5]
  congr 1; funext xs s1
  by_cases h : xs.length ≤ LIM <;> simp [h]
theorem Zb2 : wp (Zej r δ s) P = wp (r δ s) fun xs s1 => xs.length ≤ LIM ∧ P (.lst xs) s1 := by
  unfold Zej; simp only [Zb7, wp_if, Zdd, Zb5]
  congr 1; funext xs s1
  by_cases h : xs.length ≤ LIM <;> simp [h]
theorem Zco : wp (x_cel r δ s) P = wp (r δ s) fun xs s1 => xs.length ≤ LIM ∧ P (.cell s1.length) (s1 ++ [.lst xs]) := by
  unfold x_cel; simp only [Zb7, wp_if, Zdd, Zb5]
  congr 1; funext xs s1
  by_cases h : xs.length ≤ LIM <;> simp [h]
theorem Za7 : wp (Zi3 r δ s) P = wp (r δ s) fun xs s1 => xs.length ≤ LIM ∧ P (.cell s1.length) (s1 ++ [.lst xs]) := Zco δ s P r
theorem Zbo : wp (x_dcel δ s) P = P (.cell s.length) (s ++ [.dic []]) := (Eq.refl _).trans rfl
theorem Zat : wp (x_dnewC δ s) P = P (.cell s.length) (s ++ [.dic []]) := (Eq.refl _).trans rfl
theorem Zbp : wp (Zi5 δ s) P = P (.dic []) s := (Eq.refl _).trans rfl
theorem Zdk (op : DPN) : wp (x_cb op r δ s) P = wp (r δ s) fun xs s1 => wp (Zbw (op xs s1)) P := by unfold x_cb; simp only [Zb7]
/-- the truth value at hand -/
noncomputable def wpb (Q : Bool → Prop) : T → Prop
  | .bl k => Q k
  | _ => False
theorem Zb0 (Q : Bool → Prop) (k : Bool) : wpb Q (.bl k) = Q k := (Eq.refl _).trans rfl
theorem Zca : wp (Zem a δ s) PT = wp (a δ s) fun x s1 => wpb (fun k => PT k s1) x := by
  unfold Zem; simp only [Zb7]
  congr 1; funext x s1
  cases x <;> rfl
noncomputable def wpB (Q : Bool → Prop) : Option Bool → Prop
  | some k => Q k
  | none => False
theorem Zdl (Q : Bool → Prop) (k : Bool) : wpB Q (some k) = Q k := (Eq.refl _).trans rfl
theorem Zbx : wp (Zf2 a δ s) PT = wp (a δ s) fun x s1 => wpB (fun k => PT k s1) (truT s1 x) := by
  unfold Zf2; simp only [Zb7]
  congr 1; funext x s1
  cases truT s1 x <;> rfl
theorem Zby (k : Bool) : truT s (.bl k) = some k := (Eq.refl _).trans rfl
theorem Zc1 : wp (xt_and t u δ s) PT = wp (t δ s) fun k s1 => if k = true then wp (u δ s1) PT else PT false s1 := by unfold xt_and; simp only [Zb7, wp_if, Zdd]
theorem Zdz : wp (Zic t u δ s) PT = wp (t δ s) fun k s1 => if k = true then PT true s1 else wp (u δ s1) PT := by unfold Zic; simp only [Zb7, wp_if, Zdd]
theorem Zbz : wp (Zf0 t δ s) PT = wp (t δ s) fun k s1 => PT (!k) s1 := by unfold Zf0; simp only [Zb7, Zdd]
theorem Zcz : wp (Zfw δ s) PT = PT true s := (Eq.refl _).trans rfl
theorem Zbr : wp (Zix a b δ s) P = wp (a δ s) fun x s1 => wpb (fun k => if k = true then wp (b δ s1) P else P (.bl false) s1) x := by
  unfold Zix; simp only [Zb7]
  congr 1; funext x s1
  cases x with
  | bl k => cases k <;> simp [wpb, Zdd]
  | _ => rfl
theorem Zd1 : wp (x_or a b δ s) P = wp (a δ s) fun x s1 => wpb (fun k => if k = true then P (.bl true) s1 else wp (b δ s1) P) x := by
  unfold x_or; simp only [Zb7]
  congr 1; funext x s1
  cases x with
  | bl k => cases k <;> simp [wpb, Zdd]
  | _ => rfl
theorem Zcn : wp (x_not a δ s) P = wp (a δ s) fun x s1 => wpb (fun k => P (.bl (!k)) s1) x := by
  unfold x_not; simp only [Zb7]
  congr 1; funext x s1
  cases x <;> rfl
theorem Zd6 : wp (x_if t a b δ s) P = wp (t δ s) fun k s1 => if k = true then wp (a δ s1) P else wp (b δ s1) P := by unfold x_if; simp only [Zb7, wp_if]
theorem Zao (f : DFn) : wp (Zbs f r δ s) P = wp (r δ s) fun xs s1 => wp (f xs s1) P := by unfold Zbs; simp only [Zb7]
theorem Zdu : wp (Ziv δ s) PO = PO none s := (Eq.refl _).trans rfl
noncomputable def wpi (Q : Int → Prop) : T → Prop
  | .int i => Q i
  | _ => False
theorem Zds (Q : Int → Prop) (k : Int) : wpi Q (.int k) = Q k := (Eq.refl _).trans rfl
theorem Zb8 : wp (Zft a δ s) PO = wp (a δ s) fun x s1 => wpi (fun k => PO (some k) s1) x := by
  unfold Zft; simp only [Zb7]
  congr 1; funext x s1
  cases x <;> rfl
theorem Zdw (lo hi : DO) : wp (x_sl a lo hi δ s) P = wp (a δ s) fun x s1 => wp (lo δ s1) fun l s2 => wp (hi δ s2) fun h s3 => wp (Zbw (ySl x l h s3)) P := by unfold x_sl; simp only [Zb7]
noncomputable def wpS (Q : String → Prop) : Option String → Prop
  | some k => Q k
  | none => False
theorem Zdm (Q : String → Prop) (k : String) : wpS Q (some k) = Q k := (Eq.refl _).trans rfl
theorem Zb6 (K : String) : wp (Zhm K a δ s) P = wp (a δ s) fun x s1 => wpS (fun k => P (.bl (subT k K)) s1) (tyT s1 x) := by
  unfold Zhm; simp only [Zb7]
  congr 1; funext x s1
  cases tyT s1 x <;> rfl
theorem Zbf : wp (x_bits a δ s) P = wp (a δ s) fun x s1 => wpi (fun k => P (.int (Builtin.Int.intBits k : Nat)) s1) x := by
  unfold x_bits; simp only [Zb7]
  congr 1; funext x s1
  cases x <;> rfl
theorem Zdv (dc : Sd → T → Bool) (op : DPM) : wp (x_bm dc op a r δ s) P = wp (a δ s) fun x s1 => dc s1 x = true ∧ wp (r δ s1) fun ws s2 => wp (Zbw (op x ws s2)) P := by
  unfold x_bm; simp only [Zb7, wp_if, Zb5]
  congr 1; funext x s1
  by_cases h : dc s1 x = true <;> simp [h]
theorem Zcx (dc : Sd → T → Bool) (op : DPM) : wp (x_bm0 dc op a δ s) P = wp (a δ s) fun x s1 => dc s1 x = true ∧ wp (Zbw (op x [] s1)) P := by
  unfold x_bm0; simp only [Zb7, wp_if, Zb5]
  congr 1; funext x s1
  by_cases h : dc s1 x = true <;> simp [h]
theorem Za3 : wp (Zei δ s) PS = PS (.nx δ) s := (Eq.refl _).trans rfl
theorem Zax : wp (Zar p q δ s) PS = wp (p δ s) fun f s1 => wpm (fun d s => wp (q d s) PS) PS s1 f := by
  unfold Zar; simp only [Zb7]
  congr 1; funext f s1
  cases f <;> rfl
theorem Zaq : wp (Zb4 a (xg_n i) δ s) PS = wp (a δ s) fun x s1 => PS (.nx (δ.set i (some x))) s1 := by
  unfold Zb4; simp only [Zb7]
  congr 1
noncomputable def wpd (Q : Ed → Prop) : Option Ed → Prop
  | some d => Q d
  | none => False
theorem Zea (Q : Ed → Prop) (d : Ed) : wpd Q (some d) = Q d := (Eq.refl _).trans rfl
theorem Zbm (n : Nat) (g : DGs) : wp (Zb4 a (xg_tup n g) δ s) PS = wp (a δ s) fun x s1 => wpd (fun d => PS (.nx d) s1) (xg_tup n g x δ) := by
  unfold Zb4; simp only [Zb7]
  congr 1; funext x s1
  cases xg_tup n g x δ <;> rfl
theorem Zbe (n : Nat) (g : DGs) : wp (Zb4 a (xg_unl n g) δ s) PS = wp (a δ s) fun x s1 => wpd (fun d => PS (.nx d) s1) (xg_unl n g x δ) := by
  unfold Zb4; simp only [Zb7]
  congr 1; funext x s1
  cases xg_unl n g x δ <;> rfl
theorem Za6 : wp (Zde a δ s) PS = wp (a δ s) fun x s1 => PS (.rt x) s1 := by unfold Zde; simp only [Zb7, Zdd]
theorem Zbg : wp (xs_retN δ s) PS = PS (.rt .non) s := (Eq.refl _).trans rfl
theorem Zdo : wp (Zf6 t p q δ s) PS = wp (t δ s) fun k s1 => if k = true then wp (p δ s1) PS else wp (q δ s1) PS := by unfold Zf6; simp only [Zb7, wp_if]
theorem Zdt : wp (Zm3 a δ s) PS = wp (a δ s) fun _ s1 => PS (.nx δ) s1 := by unfold Zm3; simp only [Zb7, Zdd]
theorem Zcr : wp (xs_brk δ s) PS = PS (.bk δ) s := (Eq.refl _).trans rfl
theorem Zcs : wp (xs_cnt δ s) PS = PS (.ct δ) s := (Eq.refl _).trans rfl
theorem Zav : wp (Zmh δ s) PS = False := (Eq.refl _).trans rfl
noncomputable def wpc (Q : Sd → Prop) : Option Sd → Prop
  | some d => Q d
  | none => False
theorem Zd7 (Q : Sd → Prop) (d : Sd) : wpc Q (some d) = Q d := (Eq.refl _).trans rfl
theorem Zd4 (f : DSet) (e o k : DE) : wp (xs_st f e o k δ s) PS = wp (e δ s) fun x s1 => wp (o δ s1) fun y s2 => wp (k δ s2) fun z s3 => wpc (fun s' => PS (.nx δ) s') (f x y z s3) := by
  unfold xs_st; simp only [Zb7]
  congr 1; funext x s1; congr 1; funext y s2; congr 1; funext z s3
  cases f x y z s3 <;> rfl
noncomputable def wpp (Q : T → T → Prop) : List T → Prop
  | [x, y] => Q x y
  | _ => False
theorem Zd0 (Q : T → T → Prop) (x y : T) : wpp Q [x, y] = Q x y := (Eq.refl _).trans rfl
theorem Zck (j : Nat) : wp (Zmz i j r δ s) PS = wp (r δ s) fun ws s1 => wpp (fun x y => PS (.nx ((δ.set i (some x)).set j (some y))) s1) ws := by
  unfold Zmz; simp only [Zb7]
  congr 1; funext ws s1
  match ws with
  | [] => rfl
  | [_] => rfl
  | [_, _] => rfl
  | _ :: _ :: _ :: _ => rfl
theorem Zb3 (I : DI) (g : DG) : wp (Zf3 I g p δ s) PS = wp (I δ s) fun it s1 => wp (dforI it.2 g p 0 it.1 δ s1) PS := by unfold Zf3; simp only [Zb7]
theorem Zcb (Q : List T × Bool → Sd → Prop) : wp (Zgu a δ s) Q = wp (a δ s) fun x s1 => wpi (fun k => cRng k = true ∧ Q (ranT k.toNat, false) s1) x := by
  unfold Zgu; simp only [Zb7]
  congr 1; funext x s1
  cases x with
  | int k =>
    show wp (if cRng k = true then _ else _) Q = (cRng k = true ∧ _)
    by_cases h : cRng k = true
    · rw [if_pos h]; exact propext ⟨fun q => ⟨h, q⟩, fun q => q.2⟩
    · rw [if_neg h]; exact propext ⟨fun q => False.elim q, fun q => h q.1⟩
  | _ => rfl
theorem Zcw : xg_nil [] δ = some δ := (Eq.refl _).trans rfl
theorem Zbk (x : T) (xs : List T) (g : DGs) : xg_cons (xg_n i) g (x :: xs) δ = g xs (δ.set i (some x)) := (Eq.refl _).trans rfl
end
/-! ### pure trees, and cells that stay as they are -/
/-- no cell within, at most so deep -/
noncomputable def pure? : Nat → T → Bool
  | _, .non => true
  | _, .bl _ => true
  | _, .int _ => true
  | _, .str _ => true
  | d + 1, .lst ts => ts.all (pure? d)
  | d + 1, .tup ts => ts.all (pure? d)
  | d + 1, .dic ts => ts.all fun p => pure? d p.2
  | d + 1, .ins _ ts => ts.all fun p => pure? d p.2
  | _, _ => false
theorem Zja {g : T → Option T} : ∀ {ts : List T}, (∀ t ∈ ts, g t = some t) → trav g ts = some ts
  | [], _ => rfl
  | t :: ts, h => by
    unfold trav
    rw [h t List.mem_cons_self, Zja fun u hu => h u (List.mem_cons_of_mem _ hu)]
    rfl
theorem travK_id {g : T → Option T} : ∀ {ts : List (Key × T)}, (∀ t ∈ ts, g t.2 = some t.2) → Zjd g ts = some ts
  | [], _ => rfl
  | (k, t) :: ts, h => by
    unfold Zjd
    rw [h (k, t) List.mem_cons_self, travK_id fun u hu => h u (List.mem_cons_of_mem _ hu)]
    rfl
theorem Zmf {g : T → Option T} : ∀ {ts : List (Str × T)}, (∀ t ∈ ts, g t.2 = some t.2) → Zjj g ts = some ts
  | [], _ => rfl
  | (k, t) :: ts, h => by
    unfold Zjj
    rw [h (k, t) List.mem_cons_self, Zmf fun u hu => h u (List.mem_cons_of_mem _ hu)]
    rfl
theorem Zfv (n : Nat) (s : Sd) : ∀ (d f : Nat) (t : T), d ≤ f → pure? d t = true → fr n s f t = some t := by
  intro d
  induction d with
  | zero =>
    intro f t _ h
    cases t with
    | non => cases f <;> rfl
    | bl b => cases f <;> rfl
    | int b => cases f <;> rfl
    | str b => cases f <;> rfl
    | _ => cases h
  | succ d ih =>
    intro f t hf h
    obtain ⟨f, rfl⟩ : ∃ g, f = g + 1 := ⟨f - 1, by omega⟩
    have hf : d ≤ f := by omega
    cases t with
    | lst ts =>
      have h := List.all_eq_true.mp (show ts.all (pure? d) = true from h)
      show (trav (fr n s f) ts).map T.lst = _
      rw [Zja fun t ht => ih f t hf (h t ht)]
      rfl
    | tup ts =>
      have h := List.all_eq_true.mp (show ts.all (pure? d) = true from h)
      show (trav (fr n s f) ts).map T.tup = _
      rw [Zja fun t ht => ih f t hf (h t ht)]
      rfl
    | dic ts =>
      have h := List.all_eq_true.mp (show (ts.all fun p => pure? d p.2) = true from h)
      show (Zjd (fr n s f) ts).map T.dic = _
      rw [travK_id fun t ht => ih f t.2 hf (h t ht)]
      rfl
    | ins i ts =>
      have h := List.all_eq_true.mp (show (ts.all fun p => pure? d p.2) = true from h)
      show (Zjj (fr n s f) ts).map (T.ins i) = _
      rw [Zmf fun t ht => ih f t.2 hf (h t ht)]
      rfl
    | cell k => cases h
    | exn k t => cases h
    | _ => rfl
noncomputable abbrev PD : Nat := 12
/-- a cell that freezing leaves as it is -/
noncomputable def Zhj : TO → Bool
  | .lst ts => ts.all (pure? PD)
  | .dic ts => ts.all fun p => pure? PD p.2
  | .ins _ ts => ts.all fun p => pure? PD p.2
  | .scr _ => true
theorem frO_pure (n : Nat) (s : Sd) {o : TO} (h : Zhj o = true) : frO n s o = some o := by
  cases o with
  | lst ts =>
    have h := List.all_eq_true.mp (show ts.all (pure? PD) = true from h)
    show (trav (fr n s FU) ts).map TO.lst = _
    rw [Zja fun t ht => Zfv n s PD FU t (by decide) (h t ht)]
    rfl
  | dic ts =>
    have h := List.all_eq_true.mp (show (ts.all fun p => pure? PD p.2) = true from h)
    show (Zjd (fr n s FU) ts).map TO.dic = _
    rw [travK_id fun t ht => Zfv n s PD FU t.2 (by decide) (h t ht)]
    rfl
  | ins i ts =>
    have h := List.all_eq_true.mp (show (ts.all fun p => pure? PD p.2) = true from h)
    show (Zjj (fr n s FU) ts).map (TO.ins i) = _
    rw [Zmf fun t ht => Zfv n s PD FU t.2 (by decide) (h t ht)]
    rfl
  | scr ns => rfl
theorem Zfk (n : Nat) (s : Sd) : ∀ {os : Sd}, (∀ o ∈ os, Zhj o = true) → frS n s os = some os
  | [], _ => rfl
  | o :: r, h => by
    unfold frS
    rw [frO_pure n s (h o List.mem_cons_self), Zfk n s fun u hu => h u (List.mem_cons_of_mem _ hu)]
    rfl
/-- all cells are pure -/
noncomputable def PureS (s : Sd) : Prop := ∀ o ∈ s, Zhj o = true
theorem PureS.take {s : Sd} (h : PureS s) (n : Nat) : PureS (s.take n) := fun o ho => h o (List.mem_of_mem_take ho)
theorem PureS.set {s : Sd} (h : PureS s) {k : Nat} {o : TO} (ho : Zhj o = true) : PureS (s.set k o) := fun u hu => by
  rcases List.mem_or_eq_of_mem_set hu with z | z
  · exact h u z
  · rw [z]; exact ho
theorem PureS.app {s : Sd} (h : PureS s) {o : TO} (ho : Zhj o = true) : PureS (s ++ [o]) := fun u hu => by
  rcases List.mem_append.mp hu with z | z
  · exact h u z
  · rw [List.mem_singleton.mp z]; exact ho
/-- back from a def or a comprehension, a pure tree in hand -/
theorem pop_pure {n : Nat} {t : T} {s : Sd} {P : T → Sd → Prop} (ht : pure? PD t = true) (hs : PureS (s.take n)) (h : P t (s.take n)) : wp (pop n (fun s t => fr n s FU t) (.ok t s)) P := by
  unfold pop
  dsimp only
  rw [Zfv n s PD FU t (by decide) ht, Zfk n s hs]
  exact h
theorem wp_pop {n : Nat} {r : Rd T} {P : T → Sd → Prop} (h : wp r fun t s => pure? PD t = true ∧ PureS (s.take n) ∧ P t (s.take n)) : wp (pop n (fun s t => fr n s FU t) r) P := by
  obtain ⟨t, s, rfl, h1, h2, h3⟩ := Zlm h
  exact pop_pure h1 h2 h3
/-- a def whose result is a pure tree -/
theorem Zgj {k : Nat} {b : DSt} {ts : List T} {s : Sd} {P : T → Sd → Prop}
    (h : wp (b (ts.map some ++ List.replicate (k - ts.length) none) s) fun f s1 => match f with
      | .rt t => pure? PD t = true ∧ PureS (s1.take s.length) ∧ P t (s1.take s.length)
      | .nx _ => PureS (s1.take s.length) ∧ P .non (s1.take s.length)
      | _ => False) : wp (Ze8 k b ts s) P := by
  unfold Ze8
  refine wp_pop ?_
  rw [Zb7]
  refine Zas h fun f s1 h => ?_
  cases f with
  | rt t => exact h
  | nx δ => exact ⟨rfl, h⟩
  | bk δ => exact h
  | ct δ => exact h
/-! ### loops -/
theorem Zim {g : DG} {b : DSt} {pr : Bool} (Inv : Nat → Ed → Sd → Prop) : ∀ (xs : List T) (i : Nat) (δ : Ed) (s : Sd), Inv i δ s →
    (∀ (j : Nat) (t : T) (δ : Ed) (s : Sd), xs[j]? = some t → Inv (i + j) δ s → ∃ δ1, g (ditm pr (i + j) t) δ = some δ1 ∧ wp (b δ1 s) fun f s1 => match f with
      | .nx δ2 => Inv (i + j + 1) δ2 s1
      | .ct δ2 => Inv (i + j + 1) δ2 s1
      | _ => False) →
    wp (dforI pr g b i xs δ s) fun f s1 => ∃ δ2, f = .nx δ2 ∧ Inv (i + xs.length) δ2 s1
  | [], i, δ, s, h, _ => ⟨δ, rfl, h⟩
  | t :: xs, i, δ, s, h, step => by
    unfold dforI
    obtain ⟨δ1, e, w⟩ := step 0 t δ s rfl h
    rw [Nat.add_zero] at e w
    rw [e]
    dsimp only
    rw [Zb7]
    have nxt : ∀ (j : Nat) (u : T) (δ : Ed) (s : Sd), xs[j]? = some u → Inv (i + 1 + j) δ s → ∃ δ1, g (ditm pr (i + 1 + j) u) δ = some δ1 ∧ wp (b δ1 s) fun f s1 => match f with
      | .nx δ2 => Inv (i + 1 + j + 1) δ2 s1
      | .ct δ2 => Inv (i + 1 + j + 1) δ2 s1
      | _ => False := fun j u δ s hj hI => by
      have z := step (j + 1) u δ s hj
      have e2 : i + (j + 1) = i + 1 + j := by omega
      rw [e2] at z
      exact z hI
    have fin : ∀ δ2 s1, Inv (i + 1) δ2 s1 → wp (dforI pr g b (i + 1) xs δ2 s1) fun f s1 => ∃ δ2, f = .nx δ2 ∧ Inv (i + (t :: xs).length) δ2 s1 := fun δ2 s1 hI => by
      have z := Zim Inv xs (i + 1) δ2 s1 hI nxt
      have e2 : i + 1 + xs.length = i + (t :: xs).length := by rw [List.length_cons]; omega
      rw [e2] at z
      exact z
    refine Zas w fun f s1 hf => ?_
    cases f with
    | nx δ2 => exact fin δ2 s1 hf
    | ct δ2 => exact fin δ2 s1 hf
    | bk δ2 => exact hf.elim
    | rt t => exact hf.elim
/-- a comprehension: the list grows in a cell of its own -/
theorem wp_comp {g : DG} {t : DTm} {e : DE} {pr : Bool} {δ0 : Ed} {d : Nat} (Inv : Nat → List T → Sd → Prop) : ∀ (xs : List T) (i : Nat) (acc : List T) (s : Sd), Inv i acc s → s[d]? = some (.lst acc) →
    (∀ (j : Nat) (x : T) (acc : List T) (s : Sd), xs[j]? = some x → Inv (i + j) acc s → s[d]? = some (.lst acc) → ∃ δ1, g (ditm pr (i + j) x) δ0 = some δ1 ∧ wp (t δ1 s) fun k s1 => if k = true then
        wp (e δ1 s1) fun y s2 => s2[d]? = some (.lst acc) ∧ acc.length < LIM ∧ Inv (i + j + 1) (acc ++ [y]) (s2.set d (.lst (acc ++ [y])))
      else s1[d]? = some (.lst acc) ∧ Inv (i + j + 1) acc s1) →
    wp (dcompL pr g t e δ0 d i xs s) fun r s1 => r = .cell d ∧ ∃ acc, Inv (i + xs.length) acc s1 ∧ s1[d]? = some (.lst acc)
  | [], i, acc, s, h, hd, _ => ⟨rfl, acc, h, hd⟩
  | x :: xs, i, acc, s, h, hd, step => by
    unfold dcompL
    obtain ⟨δ1, q, w⟩ := step 0 x acc s rfl h hd
    rw [Nat.add_zero] at q w
    rw [q]
    dsimp only
    rw [Zb7]
    have fin : ∀ acc s1, Inv (i + 1) acc s1 → s1[d]? = some (.lst acc) → wp (dcompL pr g t e δ0 d (i + 1) xs s1) fun r s1 => r = .cell d ∧ ∃ acc, Inv (i + (x :: xs).length) acc s1 ∧ s1[d]? = some (.lst acc) := fun acc s1 hI h1 => by
      have z := wp_comp Inv xs (i + 1) acc s1 hI h1 fun j u acc s hj hI h2 => by
        have z := step (j + 1) u acc s hj
        have e2 : i + (j + 1) = i + 1 + j := by omega
        rw [e2] at z
        exact z hI h2
      have e2 : i + 1 + xs.length = i + (x :: xs).length := by rw [List.length_cons]; omega
      rw [e2] at z
      exact z
    refine Zas w fun k s1 hk => ?_
    cases k with
    | false =>
      rw [if_neg Bool.false_ne_true] at hk ⊢
      exact fin acc s1 hk.2 hk.1
    | true =>
      rw [if_pos rfl] at hk ⊢
      rw [Zb7]
      refine Zas hk fun y s2 ⟨h1, h2, h3⟩ => ?_
      rw [h1]
      dsimp only
      rw [if_pos h2]
      refine fin _ _ h3 ?_
      rw [List.getElem?_set_self (List.getElem?_eq_some_iff.mp h1).1]
end Vs
namespace Pr
open PySem L2 Vs
/-- the purse stands in cell k, at most b turns are spent; all cells are pure -/
structure Cx (s : Sd) (k b : Nat) : Prop where
  at_ : ∃ p0 p1 p2 p3 : Int, s[k]? = some (.lst [.int p0, .int p1, .int p2, .int p3]) ∧ 0 ≤ p0 ∧ 0 ≤ p1 ∧ p1 < 2147483629 ∧ 0 ≤ p2 ∧ p2 ≤ b ∧ 0 ≤ p3 ∧ p3 < 64
  pure : PureS s
  bd : b ≤ 2 ^ 60
/-- only the purse may have changed -/
noncomputable def Sm (k : Nat) (s s' : Sd) : Prop := s'.length = s.length ∧ ∀ j, j ≠ k → s'[j]? = s[j]?
theorem Sm.refl (k : Nat) (s : Sd) : Sm k s s := ⟨rfl, fun _ _ => rfl⟩
theorem Sm.trans {k : Nat} {s t u : Sd} (a : Sm k s t) (b : Sm k t u) : Sm k s u := ⟨b.1.trans a.1, fun j h => (b.2 j h).trans (a.2 j h)⟩
theorem Sm.set (k : Nat) (s : Sd) (o : Vs.TO) : Sm k s (s.set k o) := ⟨by simp, fun j h => List.getElem?_set_ne (Ne.symm h)⟩
theorem Cx.mono {s : Sd} {k b c : Nat} (h : Cx s k b) (hc : b ≤ c) (hb : c ≤ 2 ^ 60) : Cx s k c := by
  obtain ⟨⟨p0, p1, p2, p3, e, h0, h2, h3, h4, h5, h6, h7⟩, hp, hd⟩ := h
  exact ⟨⟨p0, p1, p2, p3, e, h0, h2, h3, h4, by omega, h6, h7⟩, hp, hb⟩
theorem Cx.lt {s : Sd} {k b : Nat} (h : Cx s k b) : k < s.length := by
  obtain ⟨⟨p0, p1, p2, p3, e, _⟩, _⟩ := h
  exact (List.getElem?_eq_some_iff.mp e).1
theorem Cx.set {s : Sd} {k b : Nat} (h : Cx s k b) {p0 p1 p2 p3 : Int} {c : Nat} (h0 : 0 ≤ p0) (h2 : 0 ≤ p1) (h3 : p1 < 2147483629) (h4 : 0 ≤ p2) (h5 : p2 ≤ c) (h6 : 0 ≤ p3) (h7 : p3 < 64) (hc : c ≤ 2 ^ 60) : Cx (s.set k (.lst [.int p0, .int p1, .int p2, .int p3])) k c :=
  ⟨⟨p0, p1, p2, p3, by rw [List.getElem?_set_self h.lt], h0, h2, h3, h4, h5, h6, h7⟩, h.pure.set rfl, hc⟩
theorem Zhk (s : Sd) : s.take s.length = s := List.take_length
theorem Ziz {i j : Int} (h : -(2 ^ 64) < j ∧ j < 2 ^ 64) : cMul i j = true := decide_eq_true (.inr h)
theorem cMul_l {i j : Int} (h : -(2 ^ 64) < i ∧ i < 2 ^ 64) : cMul i j = true := decide_eq_true (.inl h)
section
variable {s : Sd} {k : Nat} {t u v w : T} {r : List T} {P : T → Sd → Prop}
theorem ixC0 (e : s[k]? = some (.lst (t :: r))) : wp (Zbw (yIx (.cell k) (.int 0) s)) P = P t s := by
  have h : yIx (.cell k) (.int 0) s = some (t, s) := by
    unfold yIx
    simp only [ob, e, seqT, intT, Option.bind_some, atI, ixN]
    rw [if_pos (by omega), if_pos (by simp only [List.length_cons]; omega)]
    rfl
  rw [h]; rfl
theorem ixC1 (e : s[k]? = some (.lst (u :: t :: r))) : wp (Zbw (yIx (.cell k) (.int 1) s)) P = P t s := by
  have h : yIx (.cell k) (.int 1) s = some (t, s) := by
    unfold yIx
    simp only [ob, e, seqT, intT, Option.bind_some, atI, ixN]
    rw [if_pos (by omega), if_pos (by simp only [List.length_cons]; omega)]
    rfl
  rw [h]; rfl
theorem ixC2 (e : s[k]? = some (.lst (u :: v :: t :: r))) : wp (Zbw (yIx (.cell k) (.int 2) s)) P = P t s := by
  have h : yIx (.cell k) (.int 2) s = some (t, s) := by
    unfold yIx
    simp only [ob, e, seqT, intT, Option.bind_some, atI, ixN]
    rw [if_pos (by omega), if_pos (by simp only [List.length_cons]; omega)]
    rfl
  rw [h]; rfl
theorem ixC3 (e : s[k]? = some (.lst (u :: v :: w :: t :: r))) : wp (Zbw (yIx (.cell k) (.int 3) s)) P = P t s := by
  have h : yIx (.cell k) (.int 3) s = some (t, s) := by
    unfold yIx
    simp only [ob, e, seqT, intT, Option.bind_some, atI, ixN]
    rw [if_pos (by omega), if_pos (by simp only [List.length_cons]; omega)]
    rfl
  rw [h]; rfl
theorem setC0 {x : T} (e : s[k]? = some (.lst (t :: r))) : Zmj x (.cell k) (.int 0) s = some (s.set k (.lst (x :: r))) := by
  unfold Zmj
  simp only [cellL, e, ixN]
  rw [if_pos (by omega), if_pos (by simp only [List.length_cons]; omega)]
  rfl
theorem setC2 {x : T} (e : s[k]? = some (.lst (u :: v :: t :: r))) : Zmj x (.cell k) (.int 2) s = some (s.set k (.lst (u :: v :: x :: r))) := by
  unfold Zmj
  simp only [cellL, e, ixN]
  rw [if_pos (by omega), if_pos (by simp only [List.length_cons]; omega)]
  rfl
end
theorem pow2_lt {n : Int} {m : Nat} (h0 : 0 < n) (h : n < 2 ^ m) : n.natAbs.log2 < m := by
  have h1 : n.natAbs < 2 ^ m := by
    have : (n.natAbs : Int) = n := Int.natAbs_of_nonneg (Int.le_of_lt h0)
    have h2 : ((n.natAbs : Nat) : Int) < ((2 ^ m : Nat) : Int) := by rw [this]; simpa using h
    exact_mod_cast h2
  exact (Nat.log2_lt (by omega)).mpr h1
theorem mixed {s : Sd} (h : PureS s) {c t a : Int} (ht : 0 ≤ t) (ht2 : t ≤ 2 ^ 61) : wp (Zh5 [.int c, .int t, .int a] s) fun x s' => ∃ r : Int, x = .int r ∧ s' = s := by
  unfold Zh5
  refine Zgj ?_
  simp only [Zdd, Zb5, Zcq, wx_c, Zay, Zan, Zag, Zcl, Zb2, Zco, Za7, Zbo, Zat, Zbp, Zdk, Zca, Zbx, Zby, Zc1, Zdz, Zbz, Zcz, Zbr, Zd1, Zcn, Zd6, Zao, Zdu, Zb8, Zdw, Zb6, Zbf, Zdv, Zcx, Za3, Zax, Zaq, Zbm, Zbe, Za6, Zbg, Zdo, Zdt, Zcr, Zcs, Zav, Zd4, Zck, Zb3, Zcb, Za0, Zcc, Zc0, Zcv, Zd8, Zec, Zd9, Zb0, Zdl, Zds, Zdm, Zea, Zd7, Zd0, Zcw, Zbk, Zc2, Zcp, Zc3, Zcy, Zcu, Zd3, Zd5, Zd2, Zeb, Za9, Zci, Zcj, Zct, Zcm, Zbh, Zbl, Zaw, Zau, Zbb, Zbc, Zbd, Zbi, Zbj, Za8, List.map_cons, List.map_nil, List.cons_append, List.nil_append, List.length_cons, List.length_nil, List.replicate_succ, List.replicate_zero, List.set_cons_succ, List.set_cons_zero, Nat.reduceAdd, Nat.reduceSub, Nat.reduceLeDiff, Nat.reduceLT, if_true, if_false, reduceIte, Bool.false_eq_true, Nat.zero_le, true_and, and_true]
  generalize h1 : (c * 69069 + 104729 * t * t + 7919 * a + t) % 2147483647 = m1
  have b1 : 0 ≤ m1 ∧ m1 < 2147483647 := by omega
  generalize (m1 * m1 + 40503) % 2147483629 = m2
  refine ⟨Ziz (by omega), cMul_l (by omega), Ziz (by omega), cMul_l (by omega), by omega, Ziz (by omega), by omega, Ziz (by omega), by omega, rfl, h.take _, _, rfl, Zhk s⟩
theorem bits_le {n : Int} {m : Nat} (h0 : 0 < n) (h : n < 2 ^ m) : Builtin.Int.intBits n ≤ m := by
  unfold Builtin.Int.intBits
  split
  · omega
  · have := pow2_lt h0 h
    omega
theorem take_set {s : Sd} {k : Nat} {o : Vs.TO} : List.take (List.length s) (List.set s k o) = List.set s k o := by
  have e : (List.set s k o).length = s.length := by simp
  rw [← e, List.take_length]
theorem take_eq {s s' : Sd} (h : s'.length = s.length) : List.take (List.length s) s' = s' := by rw [← h, List.take_length]
theorem Sm.take {k : Nat} {s s' : Sd} (h : Sm k s s') : List.take (List.length s) s' = s' := take_eq h.1
theorem draw {s : Sd} {k b : Nat} {n : Int} (h : Cx s k b) (hb : b + 6 ≤ 2 ^ 60) (h0 : 0 < n) (h1 : n < 2 ^ 128) : wp (Zeq [.cell k, .int n] s) fun t s' => ∃ r : Int, t = .int r ∧ 0 ≤ r ∧ r < n ∧ Cx s' k (b + 6) ∧ Sm k s s' := by
  obtain ⟨⟨p0, p1, p2, p3, e, g0, g2, g3, g4, g5, g6, g7⟩, hp, hd⟩ := id h
  unfold Zeq
  refine Zgj ?_
  simp only [Zdd, Zb5, Zcq, wx_c, Zay, Zan, Zag, Zcl, Zb2, Zco, Za7, Zbo, Zat, Zbp, Zdk, Zca, Zbx, Zby, Zc1, Zdz, Zbz, Zcz, Zbr, Zd1, Zcn, Zd6, Zao, Zdu, Zb8, Zdw, Zb6, Zbf, Zdv, Zcx, Za3, Zax, Zaq, Zbm, Zbe, Za6, Zbg, Zdo, Zdt, Zcr, Zcs, Zav, Zd4, Zck, Zb3, Zcb, Za0, Zcc, Zc0, Zcv, Zd8, Zec, Zd9, Zb0, Zdl, Zds, Zdm, Zea, Zd7, Zd0, Zcw, Zbk, Zc2, Zcp, Zc3, Zcy, Zcu, Zd3, Zd5, Zd2, Zeb, Za9, Zci, Zcj, Zct, Zcm, Zbh, Zbl, Zaw, Zau, Zbb, Zbc, Zbd, Zbi, Zbj, Za8, List.map_cons, List.map_nil, List.cons_append, List.nil_append, List.length_cons, List.length_nil, List.replicate_succ, List.replicate_zero, List.set_cons_succ, List.set_cons_zero, Nat.reduceAdd, Nat.reduceSub, Nat.reduceLeDiff, Nat.reduceLT, if_true, if_false, reduceIte, Bool.false_eq_true, Nat.zero_le, true_and, and_true, ixC0 e, setC0 e, take_set]
  have l2 : n.natAbs.log2 < 128 := pow2_lt h0 h1
  have r0 := Int.emod_nonneg p0 (Int.ne_of_gt h0)
  have r1 := Int.emod_lt_of_pos p0 h0
  split
  · rename_i c
    have c := of_decide_eq_true c
    exact ⟨h0, decide_eq_true ⟨h0, by omega⟩, rfl, hp.set rfl, _, rfl, r0, r1, h.set (Int.ediv_nonneg g0 (Int.le_of_lt h0)) g2 g3 g4 (by omega) g6 g7 hb, Sm.set _ _ _⟩
  · have bl := bits_le h0 h1
    refine ⟨decide_eq_true ⟨by decide, by decide⟩, decide_eq_true (by omega), ?_⟩
    have len : (ranT (1 + (Builtin.Int.intBits n : Nat) / 28 : Int).toNat).length ≤ 6 := by
      unfold ranT
      rw [List.length_map, List.length_range]
      omega
    refine Zas (Zim (fun i δ s' => ∃ (x y : Option T) (f : Int), δ = [some (.cell k), some (.int n), x, some (.int f), y] ∧ s' = s.set k (.lst [.int p0, .int p1, .int (p2 + i), .int p3]) ∧ i ≤ 6) _ 0 _ s ⟨_, _, _, rfl, ?_, by omega⟩ ?_) ?_
    · have e' : s[k]'h.lt = .lst [.int p0, .int p1, .int p2, .int p3] := (List.getElem?_eq_some_iff.mp e).2
      show s = s.set k (.lst [.int p0, .int p1, .int (p2 + 0), .int p3])
      rw [Int.add_zero, ← e', List.set_getElem_self]
    · rintro j t δ s' hj ⟨x, y, f, rfl, rfl, hi⟩
      have hj6 : j < 6 := Nat.lt_of_lt_of_le (List.getElem?_eq_some_iff.mp hj).1 len
      rw [Nat.zero_add] at hi ⊢
      have e1 : (s.set k (.lst [.int p0, .int p1, .int (p2 + j), .int p3]))[k]? = some (.lst [.int p0, .int p1, .int (p2 + j), .int p3]) := List.getElem?_set_self h.lt
      refine ⟨_, rfl, ?_⟩
      simp only [Zdd, Zb5, Zcq, wx_c, Zay, Zan, Zag, Zcl, Zb2, Zco, Za7, Zbo, Zat, Zbp, Zdk, Zca, Zbx, Zby, Zc1, Zdz, Zbz, Zcz, Zbr, Zd1, Zcn, Zd6, Zao, Zdu, Zb8, Zdw, Zb6, Zbf, Zdv, Zcx, Za3, Zax, Zaq, Zbm, Zbe, Za6, Zbg, Zdo, Zdt, Zcr, Zcs, Zav, Zd4, Zck, Zb3, Zcb, Za0, Zcc, Zc0, Zcv, Zd8, Zec, Zd9, Zb0, Zdl, Zds, Zdm, Zea, Zd7, Zd0, Zcw, Zbk, Zc2, Zcp, Zc3, Zcy, Zcu, Zd3, Zd5, Zd2, Zeb, Za9, Zci, Zcj, Zct, Zcm, Zbh, Zbl, Zaw, Zau, Zbb, Zbc, Zbd, Zbi, Zbj, Za8, List.map_cons, List.map_nil, List.cons_append, List.nil_append, List.length_cons, List.length_nil, List.replicate_succ, List.replicate_zero, List.set_cons_succ, List.set_cons_zero, Nat.reduceAdd, Nat.reduceSub, Nat.reduceLeDiff, Nat.reduceLT, if_true, if_false, reduceIte, Bool.false_eq_true, Nat.zero_le, true_and, and_true, ixC2 e1, setC2 e1, List.set_set]
      have e2 : (s.set k (.lst [.int p0, .int p1, .int (p2 + j + 1), .int p3]))[k]? = some (.lst [.int p0, .int p1, .int (p2 + j + 1), .int p3]) := List.getElem?_set_self h.lt
      refine ⟨Ziz (by omega), ?_⟩
      simp only [ixC1 e2, ixC2 e2, ixC3 e2]
      refine Zas (mixed (hp.set rfl) (by omega) (by omega)) ?_
      rintro _ _ ⟨r, rfl, rfl⟩
      simp only [Zdd, Zb5, Zcq, wx_c, Zay, Zan, Zag, Zcl, Zb2, Zco, Za7, Zbo, Zat, Zbp, Zdk, Zca, Zbx, Zby, Zc1, Zdz, Zbz, Zcz, Zbr, Zd1, Zcn, Zd6, Zao, Zdu, Zb8, Zdw, Zb6, Zbf, Zdv, Zcx, Za3, Zax, Zaq, Zbm, Zbe, Za6, Zbg, Zdo, Zdt, Zcr, Zcs, Zav, Zd4, Zck, Zb3, Zcb, Za0, Zcc, Zc0, Zcv, Zd8, Zec, Zd9, Zb0, Zdl, Zds, Zdm, Zea, Zd7, Zd0, Zcw, Zbk, Zc2, Zcp, Zc3, Zcy, Zcu, Zd3, Zd5, Zd2, Zeb, Za9, Zci, Zcj, Zct, Zcm, Zbh, Zbl, Zaw, Zau, Zbb, Zbc, Zbd, Zbi, Zbj, Za8, List.map_cons, List.map_nil, List.cons_append, List.nil_append, List.length_cons, List.length_nil, List.replicate_succ, List.replicate_zero, List.set_cons_succ, List.set_cons_zero, Nat.reduceAdd, Nat.reduceSub, Nat.reduceLeDiff, Nat.reduceLT, if_true, if_false, reduceIte, Bool.false_eq_true, Nat.zero_le, true_and, and_true]
      exact ⟨_, _, _, rfl, by rw [Int.add_assoc]; rfl, by omega⟩
    · rintro _ s' ⟨δ, rfl, x, y, f, rfl, rfl, hi⟩
      simp only [Zdd, Zb5, Zcq, wx_c, Zay, Zan, Zag, Zcl, Zb2, Zco, Za7, Zbo, Zat, Zbp, Zdk, Zca, Zbx, Zby, Zc1, Zdz, Zbz, Zcz, Zbr, Zd1, Zcn, Zd6, Zao, Zdu, Zb8, Zdw, Zb6, Zbf, Zdv, Zcx, Za3, Zax, Zaq, Zbm, Zbe, Za6, Zbg, Zdo, Zdt, Zcr, Zcs, Zav, Zd4, Zck, Zb3, Zcb, Za0, Zcc, Zc0, Zcv, Zd8, Zec, Zd9, Zb0, Zdl, Zds, Zdm, Zea, Zd7, Zd0, Zcw, Zbk, Zc2, Zcp, Zc3, Zcy, Zcu, Zd3, Zd5, Zd2, Zeb, Za9, Zci, Zcj, Zct, Zcm, Zbh, Zbl, Zaw, Zau, Zbb, Zbc, Zbd, Zbi, Zbj, Za8, List.map_cons, List.map_nil, List.cons_append, List.nil_append, List.length_cons, List.length_nil, List.replicate_succ, List.replicate_zero, List.set_cons_succ, List.set_cons_zero, Nat.reduceAdd, Nat.reduceSub, Nat.reduceLeDiff, Nat.reduceLT, if_true, if_false, reduceIte, Bool.false_eq_true, Nat.zero_le, true_and, and_true, take_set]
      rw [Nat.zero_add] at hi ⊢
      exact ⟨h0, rfl, hp.set rfl, _, rfl, Int.emod_nonneg _ (Int.ne_of_gt h0), Int.emod_lt_of_pos _ h0, h.set g0 g2 g3 (by omega) (by omega) g6 g7 hb, Sm.set _ _ _⟩
end Pr
namespace Pr
open PySem L2 Vs
/-! ### names -/
/-- one to ten letters from a to z -/
noncomputable def isNm (x : Str) : Bool := decide (1 ≤ x.length) && decide (x.length ≤ 10) && x.cps.toList.all fun c => decide (97 ≤ c ∧ c ≤ 122)
theorem Zg4 {x : Str} (h : isNm x = true) : 1 ≤ x.length ∧ x.length ≤ 10 := by
  unfold isNm at h
  simp only [Bool.and_eq_true, decide_eq_true_eq] at h
  exact h.1
theorem Zjh {x : Str} (h : isNm x = true) {c : Nat} (hc : c ∈ x.cps.toList) : 97 ≤ c ∧ c ≤ 122 := by
  unfold isNm at h
  simp only [Bool.and_eq_true] at h
  exact of_decide_eq_true (List.all_eq_true.mp h.2 c hc)
theorem isNm_ok {x : Str} (h : isNm x = true) : PyData.strOk x = true := by
  unfold PyData.strOk
  rw [← Array.all_toList, List.all_eq_true]
  intro c hc
  have := Zjh h hc
  exact decide_eq_true (by omega)
/-- the tree at t is a list of these names, whatever becomes of the purse -/
noncomputable def NmK (k : Nat) (s : Sd) (t : T) (xs : List Str) : Prop := ∀ s', Sm k s s' → ob s' t = some (.lst (xs.map T.str))
theorem NmK.step {k : Nat} {s s' : Sd} {t : T} {xs : List Str} (h : NmK k s t xs) (m : Sm k s s') : NmK k s' t xs := fun u m' => h u (m.trans m')
theorem NmK.here {k : Nat} {s : Sd} {t : T} {xs : List Str} (h : NmK k s t xs) : ob s t = some (.lst (xs.map T.str)) := h s (Sm.refl k s)
theorem NmK.lst (k : Nat) (s : Sd) (xs : List Str) : NmK k s (.lst (xs.map T.str)) xs := fun _ _ => rfl
theorem NmK.cell {k j : Nat} {s : Sd} {xs : List Str} (h : s[j]? = some (.lst (xs.map T.str))) (n : j ≠ k) : NmK k s (.cell j) xs := fun s' m => by
  show (match s'[j]? with | some (.lst ts) => some (TU.lst ts) | some (.dic ts) => some (.dic ts) | some (.ins n ts) => some (.ins n ts) | some (.scr ns) => some (.scr ns) | none => none) = _
  rw [m.2 j n, h]
noncomputable def Zh1 (xs : List Str) : Prop := ∀ x ∈ xs, isNm x = true
theorem wp_lenNm {s : Sd} {t : T} {xs : List Str} {P : T → Sd → Prop} (h : ob s t = some (.lst (xs.map T.str))) : wp (Zbw (yLen [t] s)) P = P (.int xs.length) s := by
  have e : yLen [t] s = some (.int xs.length, s) := by
    unfold yLen
    simp [seqT, h]
  rw [e]; rfl
/-! ### operands and definitions -/
noncomputable def Opd (xs : List Str) (t : T) : Prop := (∃ i, t = .int i) ∨ ∃ x ∈ xs, t = .str x
theorem Opd.pure {xs : List Str} {t : T} (h : Opd xs t) (d : Nat) : pure? d t = true := by
  rcases h with ⟨i, rfl⟩ | ⟨x, _, rfl⟩ <;> cases d <;> rfl
end Pr
namespace Pr
open PySem L2 Vs
/-! ### comprehensions beside the purse -/
theorem Zc9 : ∀ (d : Nat) {t : T} {e : Nat}, d ≤ e → pure? d t = true → pure? e t = true := by
  intro d
  induction d with
  | zero =>
    intro t e _ h
    cases t with
    | non => cases e <;> rfl
    | bl b => cases e <;> rfl
    | int b => cases e <;> rfl
    | str b => cases e <;> rfl
    | _ => cases h
  | succ d ih =>
    intro t e he h
    obtain ⟨e, rfl⟩ : ∃ g, e = g + 1 := ⟨e - 1, by omega⟩
    have he : d ≤ e := by omega
    cases t with
    | lst ts => exact List.all_eq_true.mpr fun x hx => ih he (List.all_eq_true.mp (show ts.all (pure? d) = true from h) x hx)
    | tup ts => exact List.all_eq_true.mpr fun x hx => ih he (List.all_eq_true.mp (show ts.all (pure? d) = true from h) x hx)
    | dic ts => exact List.all_eq_true.mpr fun x hx => ih he (List.all_eq_true.mp (show (ts.all fun p => pure? d p.2) = true from h) x hx)
    | ins i ts => exact List.all_eq_true.mpr fun x hx => ih he (List.all_eq_true.mp (show (ts.all fun p => pure? d p.2) = true from h) x hx)
    | cell k => cases h
    | exn k t => cases h
    | _ => rfl
theorem Cx.setO {s : Sd} {k b j : Nat} (h : Cx s k b) (n : j ≠ k) {o : Vs.TO} (ho : Zhj o = true) : Cx (s.set j o) k b := by
  obtain ⟨⟨p0, p1, p2, p3, e, r⟩, hp, hd⟩ := h
  exact ⟨⟨p0, p1, p2, p3, by rw [List.getElem?_set_ne n]; exact e, r⟩, hp.set ho, hd⟩
theorem Cx.app {s : Sd} {k b : Nat} (h : Cx s k b) {o : Vs.TO} (ho : Zhj o = true) : Cx (s ++ [o]) k b := by
  have hl := h.lt
  obtain ⟨⟨p0, p1, p2, p3, e, r⟩, hp, hd⟩ := h
  exact ⟨⟨p0, p1, p2, p3, by rw [List.getElem?_append_left hl]; exact e, r⟩, hp.app ho, hd⟩
theorem Cx.take {s : Sd} {k b n : Nat} (h : Cx s k b) (hk : k < n) : Cx (s.take n) k b := by
  obtain ⟨⟨p0, p1, p2, p3, e, r⟩, hp, hd⟩ := h
  exact ⟨⟨p0, p1, p2, p3, by rw [List.getElem?_take, if_pos hk]; exact e, r⟩, hp.take n, hd⟩
theorem Sm.take_app {k : Nat} {s s' : Sd} {o : Vs.TO} (h : Sm k (s ++ [o]) s') : Sm k s (s'.take s.length) := by
  have hl := h.1
  rw [List.length_append, List.length_singleton] at hl
  refine ⟨by rw [List.length_take]; omega, fun j hj => ?_⟩
  rw [List.getElem?_take]
  split
  · rename_i hlt
    rw [h.2 j hj, List.getElem?_append_left hlt]
  · rename_i hlt
    rw [List.getElem?_eq_none (by omega)]
theorem lc_rule {g : DG} {t : DTm} {e : DE} {δ0 : Ed} {pr : Bool} {k b c : Nat} {s : Sd} {xs : List T} (J : Nat → List T → Prop) (h : Cx s k b) (hx : xs.length ≤ 1000) (hb : b + c * xs.length ≤ 2 ^ 60) (j0 : J 0 [])
    (step : ∀ (j : Nat) (x : T) (acc : List T) (s1 : Sd), xs[j]? = some x → J j acc → Cx s1 k (b + c * j) → Sm k (s ++ [.lst acc]) s1 → ∃ δ1, g (ditm pr j x) δ0 = some δ1 ∧ wp (t δ1 s1) fun z s2 => if z = true then
        wp (e δ1 s2) fun y s3 => pure? 11 y = true ∧ J (j + 1) (acc ++ [y]) ∧ Cx s3 k (b + c * (j + 1)) ∧ Sm k s1 s3
      else J (j + 1) acc ∧ Cx s2 k (b + c * (j + 1)) ∧ Sm k s1 s2) :
    wp (pop s.length (fun s2 t => fr s.length s2 FU t) (dcompL pr g t e δ0 s.length 0 xs (s ++ [.lst []]))) fun r s' => ∃ acc, r = .lst acc ∧ (∀ y ∈ acc, pure? 11 y = true) ∧ J xs.length acc ∧ Cx s' k (b + c * xs.length) ∧ Sm k s s' := by
  have hk := h.lt
  have po : ∀ acc : List T, (∀ y ∈ acc, pure? 11 y = true) → Zhj (.lst acc) = true := fun acc ha => List.all_eq_true.mpr fun y hy => Zc9 11 (by decide) (ha y hy)
  have w := wp_comp (g := g) (t := t) (e := e) (pr := pr) (δ0 := δ0) (d := s.length) (fun i acc s' => i ≤ xs.length ∧ acc.length ≤ i ∧ (∀ y ∈ acc, pure? 11 y = true) ∧ J i acc ∧ Cx s' k (b + c * i) ∧ Sm k (s ++ [.lst acc]) s') xs 0 [] (s ++ [.lst []])
    ⟨Nat.zero_le _, Nat.le_refl _, (fun _ hy => nomatch hy), j0, by rw [Nat.mul_zero, Nat.add_zero]; exact h.app rfl, Sm.refl _ _⟩ (by simp) ?_
  · obtain ⟨r, s', e1, rfl, acc, ⟨hi, hl, ha, hj, hc, hm⟩, hd⟩ := Zlm w
    rw [Nat.zero_add] at hj hc
    rw [e1]
    unfold pop
    dsimp only
    have f1 : fr s.length s' FU (.cell s.length) = some (.lst acc) := by
      show (if s.length < s.length then some (T.cell s.length) else match s'[s.length]? with
        | some (.lst ts) => (trav (fr s.length s' 29) ts).map T.lst
        | some (.dic ts) => (Zjd (fr s.length s' 29) ts).map T.dic
        | some (.ins i ts) => (Zjj (fr s.length s' 29) ts).map (T.ins i)
        | _ => none) = some (.lst acc)
      rw [if_neg (Nat.lt_irrefl _), hd]
      dsimp only
      rw [Zja fun y hy => Zfv _ _ 11 29 y (by decide) (ha y hy)]
      rfl
    rw [f1, Zfk _ _ (hc.pure.take _)]
    exact ⟨acc, rfl, ha, hj, hc.take hk, hm.take_app⟩
  · rintro j x acc s1 hj ⟨hi, hl, ha, hJ, hc, hm⟩ hd
    rw [Nat.zero_add] at hi hl hJ hc ⊢
    have hjx : j < xs.length := (List.getElem?_eq_some_iff.mp hj).1
    obtain ⟨δ1, q, w⟩ := step j x acc s1 hj hJ hc hm
    refine ⟨δ1, q, Zas w fun z s2 hz => ?_⟩
    cases z with
    | false =>
      rw [if_neg Bool.false_ne_true] at hz ⊢
      obtain ⟨z1, z2, z3⟩ := hz
      exact ⟨by rw [z3.2 _ (by omega)]; exact hd, by omega, by omega, ha, z1, z2, hm.trans z3⟩
    | true =>
      rw [if_pos rfl] at hz ⊢
      refine Zas hz fun y s3 ⟨y1, y2, y3, y4⟩ => ?_
      have hd3 : s3[s.length]? = some (.lst acc) := by rw [y4.2 _ (by omega)]; exact hd
      have ha' : ∀ z ∈ acc ++ [y], pure? 11 z = true := fun z hz => by
        rcases List.mem_append.mp hz with q | q
        · exact ha z q
        · rw [List.mem_singleton.mp q]; exact y1
      refine ⟨hd3, by show acc.length < 100000; omega, by omega, by simp; omega, ha', y2, y3.setO (by omega) (po _ ha'), ?_⟩
      have m3 := hm.trans y4
      refine ⟨by have := m3.1; simp at this ⊢; omega, fun i hi => ?_⟩
      by_cases ei : i = s.length
      · subst ei
        rw [List.getElem?_set_self (List.getElem?_eq_some_iff.mp hd3).1]
        simp
      · rw [List.getElem?_set_ne (Ne.symm ei), m3.2 i hi]
        rcases Nat.lt_or_ge i s.length with q | q
        · rw [List.getElem?_append_left q, List.getElem?_append_left q]
        · rw [List.getElem?_eq_none (by simp; omega), List.getElem?_eq_none (by simp; omega)]
theorem wx_lc {I : DI} {g : DG} {t : DTm} {e : DE} {vs : List Nat} {δ : Ed} {s : Sd} {P : T → Sd → Prop} : wp (x_lc I g t e vs δ s) P = wp (I δ s) fun it s1 => wp (pop s1.length (fun s2 t => fr s1.length s2 FU t) (dcompL it.2 g t e (dwip δ vs) s1.length 0 it.1 (s1 ++ [.lst []]))) P := by unfold x_lc; simp only [Zb7]
theorem ran_at {n j : Nat} {x : T} (h : (ranT n)[j]? = some x) : x = .int (j : Nat) := by
  unfold ranT at h
  rw [List.getElem?_map] at h
  obtain ⟨i, e, q⟩ := Option.map_eq_some_iff.mp h
  have : i = j := by
    have := List.getElem?_eq_some_iff.mp e
    obtain ⟨h1, h2⟩ := this
    simpa using h2.symm
  rw [← q, this]
theorem Zge (n : Nat) : (ranT n).length = n := by unfold ranT; simp
theorem NmK.app {k : Nat} {s s' : Sd} {t : T} {xs : List Str} {o : Vs.TO} (h : NmK k s t xs) (m : Sm k (s ++ [o]) s') (hk : k < s.length) : NmK k s' t xs := by
  intro u mu
  have m2 := (m.trans mu).take_app
  have e := h _ m2
  have lt : ∀ j : Nat, (u.take s.length)[j]? = if j < s.length then u[j]? else none := fun j => List.getElem?_take
  cases t with
  | cell j =>
    show (match u[j]? with | some (.lst ts) => some (TU.lst ts) | some (.dic ts) => some (.dic ts) | some (.ins n ts) => some (.ins n ts) | some (.scr ns) => some (.scr ns) | none => none) = _
    have e : (match (u.take s.length)[j]? with | some (.lst ts) => some (TU.lst ts) | some (.dic ts) => some (.dic ts) | some (.ins n ts) => some (.ins n ts) | some (.scr ns) => some (.scr ns) | none => none) = some (TU.lst (xs.map T.str)) := e
    rw [lt] at e
    by_cases q : j < s.length
    · rw [if_pos q] at e
      exact e
    · rw [if_neg q] at e
      cases e
  | lst ts => exact e
  | tup ts => exact e
  | dic ts => exact e
  | ins i ts => exact e
  | _ => exact e
end Pr
namespace Pr
open PySem L2 Vs
/-! ### settings as data -/
inductive On where
  | num (i : Int) | nm (x : Str)
inductive Dn where
  | num (i : Int) | plus (x : Str) (i : Int) | ext (mx : Bool) (ops : List On) | iff (a b c d : On)
inductive Pn where
  | sealed (lo hi : Option Int) | free (lo hi : Option Int) (ns : List Str) | choice (ns : List Str) | extend (ns : List Str)
structure Se where
  nm : Str
  pm : Pn
  df : Dn
noncomputable def On.t : On → T
  | .num i => .int i
  | .nm x => .str x
noncomputable def mw (mx : Bool) : Str := if mx = true then "max" else "min"
noncomputable def Dn.t : Dn → T
  | .num i => .tup [.str "number", .int i]
  | .plus x i => .tup [.str "plus", .str x, .int i]
  | .ext mx ops => .tup [.str (mw mx), .lst (ops.map On.t)]
  | .iff a b c d => .tup [.str "if", a.t, b.t, c.t, d.t]
noncomputable def limT : Option Int → T
  | none => .non
  | some i => .int i
noncomputable def Pn.t : Pn → T
  | .sealed lo hi => .tup [.str "sealed", limT lo, limT hi]
  | .free lo hi ns => .tup [.str "free", limT lo, limT hi, .lst (ns.map T.str)]
  | .choice ns => .tup [.str "choice", .lst (ns.map T.str)]
  | .extend ns => .tup [.str "extend", .lst (ns.map T.str)]
noncomputable def Se.t (e : Se) : T := .tup [.str e.nm, e.pm.t, e.df.t]
noncomputable def On.inn (xs : List Str) : On → Prop
  | .num _ => True
  | .nm x => x ∈ xs
noncomputable def Dn.inn (xs : List Str) : Dn → Prop
  | .num _ => True
  | .plus x _ => x ∈ xs
  | .ext _ ops => ops ≠ [] ∧ ops.length ≤ 40 ∧ ∀ o ∈ ops, o.inn xs
  | .iff a b c d => a.inn xs ∧ b.inn xs ∧ c.inn xs ∧ d.inn xs
noncomputable def limOk : Option Int → Option Int → Prop
  | some a, some b => a ≤ b
  | _, _ => True
noncomputable def Pn.inn (xs : List Str) : Pn → Prop
  | .sealed lo hi => limOk lo hi
  | .free lo hi ns => limOk lo hi ∧ ns.Nodup ∧ ∀ x ∈ ns, x ∈ xs
  | .choice ns => ns ≠ [] ∧ ns.Nodup ∧ ∀ x ∈ ns, x ∈ xs
  | .extend ns => ns.Nodup ∧ ∀ x ∈ ns, x ∈ xs
noncomputable def fits : Pn → Dn → Prop
  | .choice ns, .plus x i => x ∈ ns ∧ i = 0
  | .choice _, _ => False
  | .extend _, .ext _ _ => True
  | .extend _, _ => False
  | _, _ => True
structure Se.ok (xs : List Str) (e : Se) : Prop where
  df : e.df.inn xs
  pm : e.pm.inn xs
  fit : fits e.pm e.df
theorem On.pure (o : On) (d : Nat) : pure? d o.t = true := by
  cases o <;> cases d <;> rfl
theorem limT_pure (l : Option Int) (d : Nat) : pure? d (limT l) = true := by
  cases l <;> cases d <;> rfl
theorem Zjo (xs : List Str) (d : Nat) : (xs.map T.str).all (pure? d) = true := by
  rw [List.all_eq_true]
  intro t ht
  obtain ⟨x, _, rfl⟩ := List.mem_map.mp ht
  cases d <;> rfl
theorem ops_pure (os : List On) (d : Nat) : (os.map On.t).all (pure? d) = true := by
  rw [List.all_eq_true]
  intro t ht
  obtain ⟨x, _, rfl⟩ := List.mem_map.mp ht
  exact x.pure d
theorem Dn.pure (e : Dn) : pure? 2 e.t = true := by
  cases e with
  | num i => rfl
  | plus x i => rfl
  | ext mx ops =>
    show ([T.str (mw mx), .lst (ops.map On.t)]).all (pure? 1) = true
    simp only [List.all_cons, List.all_nil, Bool.and_true]
    exact Bool.and_eq_true_iff.mpr ⟨rfl, ops_pure ops 0⟩
  | iff a b c d =>
    show ([T.str "if", a.t, b.t, c.t, d.t]).all (pure? 1) = true
    simp only [List.all_cons, List.all_nil, Bool.and_true, On.pure]
    rfl
theorem Pn.pure (e : Pn) : pure? 2 e.t = true := by
  cases e with
  | «sealed» lo hi =>
    show ([T.str "sealed", limT lo, limT hi]).all (pure? 1) = true
    simp only [List.all_cons, List.all_nil, Bool.and_true, limT_pure]
    rfl
  | free lo hi ns =>
    show ([T.str "free", limT lo, limT hi, .lst (ns.map T.str)]).all (pure? 1) = true
    have h : pure? 1 (.lst (ns.map T.str)) = true := Zjo ns 0
    simp only [List.all_cons, List.all_nil, Bool.and_true, limT_pure, h]
    rfl
  | choice ns =>
    show ([T.str "choice", .lst (ns.map T.str)]).all (pure? 1) = true
    have h : pure? 1 (.lst (ns.map T.str)) = true := Zjo ns 0
    simp only [List.all_cons, List.all_nil, Bool.and_true, h]
    rfl
  | extend ns =>
    show ([T.str "extend", .lst (ns.map T.str)]).all (pure? 1) = true
    have h : pure? 1 (.lst (ns.map T.str)) = true := Zjo ns 0
    simp only [List.all_cons, List.all_nil, Bool.and_true, h]
    rfl
theorem Se.pure (e : Se) : pure? 3 e.t = true := by
  show ([T.str e.nm, e.pm.t, e.df.t]).all (pure? 2) = true
  simp only [List.all_cons, List.all_nil, Bool.and_true, Pn.pure, Dn.pure]
  rfl
theorem Opd.op {xs : List Str} {t : T} (h : Opd xs t) : ∃ o : On, t = o.t ∧ o.inn xs := by
  rcases h with ⟨i, rfl⟩ | ⟨x, hx, rfl⟩
  · exact ⟨.num i, rfl, trivial⟩
  · exact ⟨.nm x, rfl, hx⟩
theorem pmono {d e : Nat} {t : T} (h : pure? d t = true) (le : d ≤ e := by decide) : pure? e t = true := Zc9 d le h
/-! ### a drawn definition -/
theorem ite_of {a : Bool} {X R : Prop} (hX : a = true → X) (hR : a = false → R) : if a = true then X else R := by
  cases a with
  | false => rw [if_neg Bool.false_ne_true]; exact hR rfl
  | true => rw [if_pos rfl]; exact hX rfl
/-! ### limits -/
end Pr
namespace Vs
open PySem L2
/-- a comprehension: the list grows in a cell of its own -/
theorem wp_compF {ck : Sd → Bool} {g : DG} {t : DTm} {e : DE} {pr : Bool} {δ0 : Ed} {d : Nat} (Inv : Nat → List T → Sd → Prop) (hck : ∀ i acc s, Inv i acc s → ck s = true) : ∀ (xs : List T) (i : Nat) (acc : List T) (s : Sd), Inv i acc s → s[d]? = some (.lst acc) →
    (∀ (j : Nat) (x : T) (acc : List T) (s : Sd), xs[j]? = some x → Inv (i + j) acc s → s[d]? = some (.lst acc) → ∃ δ1, g (ditm pr (i + j) x) δ0 = some δ1 ∧ wp (t δ1 s) fun k s1 => if k = true then
        wp (e δ1 s1) fun y s2 => s2[d]? = some (.lst acc) ∧ acc.length < LIM ∧ Inv (i + j + 1) (acc ++ [y]) (s2.set d (.lst (acc ++ [y])))
      else s1[d]? = some (.lst acc) ∧ Inv (i + j + 1) acc s1) →
    wp (Zlb ck pr g t e δ0 d i xs s) fun r s1 => r = .cell d ∧ ∃ acc, Inv (i + xs.length) acc s1 ∧ s1[d]? = some (.lst acc)
  | [], i, acc, s, h, hd, _ => by
    unfold Zlb
    rw [if_pos (hck _ _ _ h)]
    exact ⟨rfl, acc, h, hd⟩
  | x :: xs, i, acc, s, h, hd, step => by
    unfold Zlb
    obtain ⟨δ1, q, w⟩ := step 0 x acc s rfl h hd
    rw [Nat.add_zero] at q w
    rw [if_pos (hck _ _ _ h), q]
    dsimp only
    rw [Zb7]
    have fin : ∀ acc s1, Inv (i + 1) acc s1 → s1[d]? = some (.lst acc) → wp (Zlb ck pr g t e δ0 d (i + 1) xs s1) fun r s1 => r = .cell d ∧ ∃ acc, Inv (i + (x :: xs).length) acc s1 ∧ s1[d]? = some (.lst acc) := fun acc s1 hI h1 => by
      have z := wp_compF Inv hck xs (i + 1) acc s1 hI h1 fun j u acc s hj hI h2 => by
        have z := step (j + 1) u acc s hj
        have e2 : i + (j + 1) = i + 1 + j := by omega
        rw [e2] at z
        exact z hI h2
      have e2 : i + 1 + xs.length = i + (x :: xs).length := by rw [List.length_cons]; omega
      rw [e2] at z
      exact z
    refine Zas w fun k s1 hk => ?_
    cases k with
    | false =>
      rw [if_neg Bool.false_ne_true] at hk ⊢
      exact fin acc s1 hk.2 hk.1
    | true =>
      rw [if_pos rfl] at hk ⊢
      rw [Zb7]
      refine Zas hk fun y s2 ⟨h1, h2, h3⟩ => ?_
      rw [h1]
      dsimp only
      rw [if_pos h2]
      refine fin _ _ h3 ?_
      rw [List.getElem?_set_self (List.getElem?_eq_some_iff.mp h1).1]
end Vs
namespace Pr
open PySem L2 Vs
theorem lcF_rule {ck : Sd → Bool} {g : DG} {t : DTm} {e : DE} {δ0 : Ed} {pr : Bool} {k b c : Nat} {s : Sd} {xs : List T} (J : Nat → List T → Prop) (h : Cx s k b) (hx : xs.length ≤ 1000) (hb : b + c * xs.length ≤ 2 ^ 60) (j0 : J 0 []) (hck : ∀ (acc : List T) (s1 : Sd), Sm k (s ++ [.lst acc]) s1 → ck s1 = true)
    (step : ∀ (j : Nat) (x : T) (acc : List T) (s1 : Sd), xs[j]? = some x → J j acc → Cx s1 k (b + c * j) → Sm k (s ++ [.lst acc]) s1 → ∃ δ1, g (ditm pr j x) δ0 = some δ1 ∧ wp (t δ1 s1) fun z s2 => if z = true then
        wp (e δ1 s2) fun y s3 => pure? 11 y = true ∧ J (j + 1) (acc ++ [y]) ∧ Cx s3 k (b + c * (j + 1)) ∧ Sm k s1 s3
      else J (j + 1) acc ∧ Cx s2 k (b + c * (j + 1)) ∧ Sm k s1 s2) :
    wp (pop s.length (fun s2 t => fr s.length s2 FU t) (Zlb ck pr g t e δ0 s.length 0 xs (s ++ [.lst []]))) fun r s' => ∃ acc, r = .lst acc ∧ (∀ y ∈ acc, pure? 11 y = true) ∧ J xs.length acc ∧ Cx s' k (b + c * xs.length) ∧ Sm k s s' := by
  have hk := h.lt
  have po : ∀ acc : List T, (∀ y ∈ acc, pure? 11 y = true) → Zhj (.lst acc) = true := fun acc ha => List.all_eq_true.mpr fun y hy => Zc9 11 (by decide) (ha y hy)
  have w := wp_compF (ck := ck) (g := g) (t := t) (e := e) (pr := pr) (δ0 := δ0) (d := s.length) (fun i acc s' => i ≤ xs.length ∧ acc.length ≤ i ∧ (∀ y ∈ acc, pure? 11 y = true) ∧ J i acc ∧ Cx s' k (b + c * i) ∧ Sm k (s ++ [.lst acc]) s') (fun i acc s1 h => hck acc s1 h.2.2.2.2.2) xs 0 [] (s ++ [.lst []])
    ⟨Nat.zero_le _, Nat.le_refl _, (fun _ hy => nomatch hy), j0, by rw [Nat.mul_zero, Nat.add_zero]; exact h.app rfl, Sm.refl _ _⟩ (by simp) ?_
  · obtain ⟨r, s', e1, rfl, acc, ⟨hi, hl, ha, hj, hc, hm⟩, hd⟩ := Zlm w
    rw [Nat.zero_add] at hj hc
    rw [e1]
    unfold pop
    dsimp only
    have f1 : fr s.length s' FU (.cell s.length) = some (.lst acc) := by
      show (if s.length < s.length then some (T.cell s.length) else match s'[s.length]? with
        | some (.lst ts) => (trav (fr s.length s' 29) ts).map T.lst
        | some (.dic ts) => (Zjd (fr s.length s' 29) ts).map T.dic
        | some (.ins i ts) => (Zjj (fr s.length s' 29) ts).map (T.ins i)
        | _ => none) = some (.lst acc)
      rw [if_neg (Nat.lt_irrefl _), hd]
      dsimp only
      rw [Zja fun y hy => Zfv _ _ 11 29 y (by decide) (ha y hy)]
      rfl
    rw [f1, Zfk _ _ (hc.pure.take _)]
    exact ⟨acc, rfl, ha, hj, hc.take hk, hm.take_app⟩
  · rintro j x acc s1 hj ⟨hi, hl, ha, hJ, hc, hm⟩ hd
    rw [Nat.zero_add] at hi hl hJ hc ⊢
    have hjx : j < xs.length := (List.getElem?_eq_some_iff.mp hj).1
    obtain ⟨δ1, q, w⟩ := step j x acc s1 hj hJ hc hm
    refine ⟨δ1, q, Zas w fun z s2 hz => ?_⟩
    cases z with
    | false =>
      rw [if_neg Bool.false_ne_true] at hz ⊢
      obtain ⟨z1, z2, z3⟩ := hz
      exact ⟨by rw [z3.2 _ (by omega)]; exact hd, by omega, by omega, ha, z1, z2, hm.trans z3⟩
    | true =>
      rw [if_pos rfl] at hz ⊢
      refine Zas hz fun y s3 ⟨y1, y2, y3, y4⟩ => ?_
      have hd3 : s3[s.length]? = some (.lst acc) := by rw [y4.2 _ (by omega)]; exact hd
      have ha' : ∀ z ∈ acc ++ [y], pure? 11 z = true := fun z hz => by
        rcases List.mem_append.mp hz with q | q
        · exact ha z q
        · rw [List.mem_singleton.mp q]; exact y1
      refine ⟨hd3, by show acc.length < 100000; omega, by omega, by simp; omega, ha', y2, y3.setO (by omega) (po _ ha'), ?_⟩
      have m3 := hm.trans y4
      refine ⟨by have := m3.1; simp at this ⊢; omega, fun i hi => ?_⟩
      by_cases ei : i = s.length
      · subst ei
        rw [List.getElem?_set_self (List.getElem?_eq_some_iff.mp hd3).1]
        simp
      · rw [List.getElem?_set_ne (Ne.symm ei), m3.2 i hi]
        rcases Nat.lt_or_ge i s.length with q | q
        · rw [List.getElem?_append_left q, List.getElem?_append_left q]
        · rw [List.getElem?_eq_none (by simp; omega), List.getElem?_eq_none (by simp; omega)]
theorem Zhg : ∀ xs : List Str, flats (xs.map T.str) = some (xs.map W.str)
  | [] => rfl
  | x :: xs => by
    show ((fl (.str x)).bind fun a => (flats (xs.map T.str)).map fun l => a :: l) = _
    rw [Zhg xs]
    rfl
/-- a comprehension over names -/
theorem lcN {g : DG} {t : DTm} {e E : DE} {δ : Ed} {vs : List Nat} {k b c : Nat} {s : Sd} {x : T} {xs : List Str} {P : T → Sd → Prop} (J : Nat → List T → Prop) (hE : wp (E δ s) fun y s1 => y = x ∧ s1 = s) (h : Cx s k b) (hn : NmK k s x xs) (hx : xs.length ≤ 1000) (hb : b + c * xs.length ≤ 2 ^ 60) (j0 : J 0 [])
    (step : ∀ (j : Nat) (z : Str) (acc : List T) (s1 : Sd), xs[j]? = some z → J j acc → Cx s1 k (b + c * j) → Sm k (s ++ [.lst acc]) s1 → ∃ δ1, g (.str z) (dwip δ vs) = some δ1 ∧ wp (t δ1 s1) fun z s2 => if z = true then
        wp (e δ1 s2) fun y s3 => pure? 11 y = true ∧ J (j + 1) (acc ++ [y]) ∧ Cx s3 k (b + c * (j + 1)) ∧ Sm k s1 s3
      else J (j + 1) acc ∧ Cx s2 k (b + c * (j + 1)) ∧ Sm k s1 s2)
    (fin : ∀ (acc : List T) (s' : Sd), (∀ y ∈ acc, pure? 11 y = true) → J xs.length acc → Cx s' k (b + c * xs.length) → Sm k s s' → P (.lst acc) s') : wp (x_lcF E g t e vs δ s) P := by
  unfold x_lcF
  rw [Zb7]
  refine Zas hE ?_
  rintro y1 s1 ⟨e1, e2⟩
  rw [e1, e2]
  have hob := hn.here
  have st : ∀ (j : Nat) (z : T) (acc : List T) (s1 : Sd), (xs.map T.str)[j]? = some z → J j acc → Cx s1 k (b + c * j) → Sm k (s ++ [.lst acc]) s1 → ∃ δ1, g (ditm false j z) (dwip δ vs) = some δ1 ∧ wp (t δ1 s1) fun z s2 => if z = true then
        wp (e δ1 s2) fun y s3 => pure? 11 y = true ∧ J (j + 1) (acc ++ [y]) ∧ Cx s3 k (b + c * (j + 1)) ∧ Sm k s1 s3
      else J (j + 1) acc ∧ Cx s2 k (b + c * (j + 1)) ∧ Sm k s1 s2 := fun j z acc s1 hj hJ hc hm => by
    rw [List.getElem?_map] at hj
    obtain ⟨y, hy, rfl⟩ := Option.map_eq_some_iff.mp hj
    exact step j y acc s1 hy hJ hc hm
  have ln : (xs.map T.str).length = xs.length := List.length_map _
  cases x with
  | lst ts =>
    cases hob
    dsimp only
    refine Zas (lc_rule J h (by rw [ln]; exact hx) (by rw [ln]; exact hb) j0 st) ?_
    rintro _ s' ⟨acc, rfl, hp, hJ, hc, hm⟩
    rw [ln] at hJ hc
    exact fin acc s' hp hJ hc hm
  | cell j =>
    dsimp only
    have hj : s[j]? = some (.lst (xs.map T.str)) := by
      have q : (match s[j]? with | some (.lst ts) => some (TU.lst ts) | some (.dic ts) => some (.dic ts) | some (.ins n ts) => some (.ins n ts) | some (.scr ns) => some (.scr ns) | none => none) = some (TU.lst (xs.map T.str)) := hob
      split at q <;> first | (rename_i q2; cases q; exact q2) | cases q
    rw [hj]
    dsimp only
    rw [Zhg]
    dsimp only
    refine Zas (lcF_rule J h (by rw [ln]; exact hx) (by rw [ln]; exact hb) j0 (fun acc s1 m => ?_) st) ?_
    · have q : ob s1 (.cell j) = some (.lst (xs.map T.str)) := (hn.app m h.lt).here
      have q : (match s1[j]? with | some (.lst ts) => some (TU.lst ts) | some (.dic ts) => some (.dic ts) | some (.ins n ts) => some (.ins n ts) | some (.scr ns) => some (.scr ns) | none => none) = some (TU.lst (xs.map T.str)) := q
      unfold ckF
      split at q <;> first | (rename_i q2; cases q; rw [q2]; exact decide_eq_true (Zhg xs)) | cases q
    · rintro _ s' ⟨acc, rfl, hp, hJ, hc, hm⟩
      rw [ln] at hJ hc
      exact fin acc s' hp hJ hc hm
  | _ => cases hob
theorem Zka {α : Type} {xs : List α} {j : Nat} {z : α} (h : xs[j]? = some z) : xs.take (j + 1) = xs.take j ++ [z] := by
  rw [List.take_succ, h]
  rfl
/-- some of the names, in their order -/
theorem some_ {s : Sd} {k b : Nat} {t : T} {xs : List Str} (h : Cx s k b) (hb : b + 6 * xs.length ≤ 2 ^ 60) (hn : NmK k s t xs) (hl : xs.length < 1000) : wp (Zjk [.cell k, t] s) fun r s' => ∃ ys : List Str, r = .lst (ys.map T.str) ∧ ys.Sublist xs ∧ Cx s' k (b + 6 * xs.length) ∧ Sm k s s' := by
  unfold Zjk
  refine Zgj ?_
  simp only [Zdd, Zb5, Zcq, wx_c, Zay, Zan, Zag, Zcl, Zb2, Zco, Za7, Zbo, Zat, Zbp, Zdk, Zca, Zbx, Zby, Zc1, Zdz, Zbz, Zcz, Zbr, Zd1, Zcn, Zd6, Zao, Zdu, Zb8, Zdw, Zb6, Zbf, Zdv, Zcx, Za3, Zax, Zaq, Zbm, Zbe, Za6, Zbg, Zdo, Zdt, Zcr, Zcs, Zav, Zd4, Zck, Zb3, Zcb, Za0, Zcc, Zc0, Zcv, Zd8, Zec, Zd9, Zb0, Zdl, Zds, Zdm, Zea, Zd7, Zd0, Zcw, Zbk, Zc2, Zcp, Zc3, Zcy, Zcu, Zd3, Zd5, Zd2, Zeb, Za9, Zci, Zcj, Zct, Zcm, Zbh, Zbl, Zaw, Zau, Zbb, Zbc, Zbd, Zbi, Zbj, Za8, List.map_cons, List.map_nil, List.cons_append, List.nil_append, List.length_cons, List.length_nil, List.replicate_succ, List.replicate_zero, List.set_cons_succ, List.set_cons_zero, Nat.reduceAdd, Nat.reduceSub, Nat.reduceLeDiff, Nat.reduceLT, if_true, if_false, reduceIte, Bool.false_eq_true, Nat.zero_le, true_and, and_true]
  refine lcN (k := k) (b := b) (c := 6) (x := t) (xs := xs) (fun j acc => ∃ ys : List Str, acc = ys.map T.str ∧ ys.Sublist (xs.take j)) (by simp only [Zdd, Zb5, Zcq, wx_c, Zay, Zan, Zag, Zcl, Zb2, Zco, Za7, Zbo, Zat, Zbp, Zdk, Zca, Zbx, Zby, Zc1, Zdz, Zbz, Zcz, Zbr, Zd1, Zcn, Zd6, Zao, Zdu, Zb8, Zdw, Zb6, Zbf, Zdv, Zcx, Za3, Zax, Zaq, Zbm, Zbe, Za6, Zbg, Zdo, Zdt, Zcr, Zcs, Zav, Zd4, Zck, Zb3, Zcb, Za0, Zcc, Zc0, Zcv, Zd8, Zec, Zd9, Zb0, Zdl, Zds, Zdm, Zea, Zd7, Zd0, Zcw, Zbk, Zc2, Zcp, Zc3, Zcy, Zcu, Zd3, Zd5, Zd2, Zeb, Za9, Zci, Zcj, Zct, Zcm, Zbh, Zbl, Zaw, Zau, Zbb, Zbc, Zbd, Zbi, Zbj, Za8, List.map_cons, List.map_nil, List.cons_append, List.nil_append, List.length_cons, List.length_nil, List.replicate_succ, List.replicate_zero, List.set_cons_succ, List.set_cons_zero, Nat.reduceAdd, Nat.reduceSub, Nat.reduceLeDiff, Nat.reduceLT, if_true, if_false, reduceIte, Bool.false_eq_true, Nat.zero_le, true_and, and_true]) h hn (by omega) hb ⟨[], rfl, by simp⟩ ?_ ?_
  · rintro j z acc s1 hj ⟨ys, rfl, sub⟩ h1 m1
    have hjx : j < xs.length := (List.getElem?_eq_some_iff.mp hj).1
    refine ⟨_, rfl, ?_⟩
    simp only [dwip, Zdd, Zb5, Zcq, wx_c, Zay, Zan, Zag, Zcl, Zb2, Zco, Za7, Zbo, Zat, Zbp, Zdk, Zca, Zbx, Zby, Zc1, Zdz, Zbz, Zcz, Zbr, Zd1, Zcn, Zd6, Zao, Zdu, Zb8, Zdw, Zb6, Zbf, Zdv, Zcx, Za3, Zax, Zaq, Zbm, Zbe, Za6, Zbg, Zdo, Zdt, Zcr, Zcs, Zav, Zd4, Zck, Zb3, Zcb, Za0, Zcc, Zc0, Zcv, Zd8, Zec, Zd9, Zb0, Zdl, Zds, Zdm, Zea, Zd7, Zd0, Zcw, Zbk, Zc2, Zcp, Zc3, Zcy, Zcu, Zd3, Zd5, Zd2, Zeb, Za9, Zci, Zcj, Zct, Zcm, Zbh, Zbl, Zaw, Zau, Zbb, Zbc, Zbd, Zbi, Zbj, Za8, List.map_cons, List.map_nil, List.cons_append, List.nil_append, List.length_cons, List.length_nil, List.replicate_succ, List.replicate_zero, List.set_cons_succ, List.set_cons_zero, Nat.reduceAdd, Nat.reduceSub, Nat.reduceLeDiff, Nat.reduceLT, if_true, if_false, reduceIte, Bool.false_eq_true, Nat.zero_le, true_and, and_true]
    refine Zas (draw (n := 2) h1 (by omega) (by decide) (by decide)) ?_
    rintro _ s2 ⟨r, rfl, r0, r1, h2, m2⟩
    simp only [Zdd, Zb5, Zcq, wx_c, Zay, Zan, Zag, Zcl, Zb2, Zco, Za7, Zbo, Zat, Zbp, Zdk, Zca, Zbx, Zby, Zc1, Zdz, Zbz, Zcz, Zbr, Zd1, Zcn, Zd6, Zao, Zdu, Zb8, Zdw, Zb6, Zbf, Zdv, Zcx, Za3, Zax, Zaq, Zbm, Zbe, Za6, Zbg, Zdo, Zdt, Zcr, Zcs, Zav, Zd4, Zck, Zb3, Zcb, Za0, Zcc, Zc0, Zcv, Zd8, Zec, Zd9, Zb0, Zdl, Zds, Zdm, Zea, Zd7, Zd0, Zcw, Zbk, Zc2, Zcp, Zc3, Zcy, Zcu, Zd3, Zd5, Zd2, Zeb, Za9, Zci, Zcj, Zct, Zcm, Zbh, Zbl, Zaw, Zau, Zbb, Zbc, Zbd, Zbi, Zbj, Za8, List.map_cons, List.map_nil, List.cons_append, List.nil_append, List.length_cons, List.length_nil, List.replicate_succ, List.replicate_zero, List.set_cons_succ, List.set_cons_zero, Nat.reduceAdd, Nat.reduceSub, Nat.reduceLeDiff, Nat.reduceLT, if_true, if_false, reduceIte, Bool.false_eq_true, Nat.zero_le, true_and, and_true]
    refine ite_of (fun c => ?_) fun c => ?_
    · exact ⟨rfl, ⟨ys ++ [z], by simp, by rw [Zka hj]; exact sub.append (List.Sublist.refl _)⟩, h2.mono (by omega) (by omega), m2⟩
    · exact ⟨⟨ys, rfl, by rw [Zka hj]; exact sub.trans (List.sublist_append_left _ _)⟩, h2.mono (by omega) (by omega), m2⟩
  · rintro acc s' hp ⟨ys, rfl, sub⟩ hc hm
    rw [List.take_length] at sub
    simp only [Zdd, Zb5, Zcq, wx_c, Zay, Zan, Zag, Zcl, Zb2, Zco, Za7, Zbo, Zat, Zbp, Zdk, Zca, Zbx, Zby, Zc1, Zdz, Zbz, Zcz, Zbr, Zd1, Zcn, Zd6, Zao, Zdu, Zb8, Zdw, Zb6, Zbf, Zdv, Zcx, Za3, Zax, Zaq, Zbm, Zbe, Za6, Zbg, Zdo, Zdt, Zcr, Zcs, Zav, Zd4, Zck, Zb3, Zcb, Za0, Zcc, Zc0, Zcv, Zd8, Zec, Zd9, Zb0, Zdl, Zds, Zdm, Zea, Zd7, Zd0, Zcw, Zbk, Zc2, Zcp, Zc3, Zcy, Zcu, Zd3, Zd5, Zd2, Zeb, Za9, Zci, Zcj, Zct, Zcm, Zbh, Zbl, Zaw, Zau, Zbb, Zbc, Zbd, Zbi, Zbj, Za8, List.map_cons, List.map_nil, List.cons_append, List.nil_append, List.length_cons, List.length_nil, List.replicate_succ, List.replicate_zero, List.set_cons_succ, List.set_cons_zero, Nat.reduceAdd, Nat.reduceSub, Nat.reduceLeDiff, Nat.reduceLT, if_true, if_false, reduceIte, Bool.false_eq_true, Nat.zero_le, true_and, and_true, hm.take]
    exact ⟨List.all_eq_true.mpr fun y hy => hp y hy, hc.pure, ys, rfl, sub, hc, hm⟩
end Pr
namespace Pr
open PySem L2 Vs
theorem inW_strs (x : Str) : ∀ is : List Str, inW (.str x) (is.map W.str) = decide (x ∈ is)
  | [] => rfl
  | i :: is => by
    have ih := inW_strs x is
    unfold inW at ih ⊢
    rw [List.map_cons, List.any_cons, ih]
    by_cases q : i = x
    · subst q; simp [eqW]
    · have q2 : ¬ x = i := fun z => q z.symm
      simp [eqW, q, q2]
theorem in_strs {s : Sd} {x : Str} {t : T} {is : List Str} {neg : Bool} {P : T → Sd → Prop} (h : seqT s t = some (is.map T.str)) : wp (Zbw (yIn neg (.str x) t s)) P = P (.bl (if neg then !decide (x ∈ is) else decide (x ∈ is))) s := by
  have e : yIn neg (.str x) t s = some (.bl (if neg then !decide (x ∈ is) else decide (x ∈ is)), s) := by
    unfold yIn
    simp only [h, fl, Zhg, Option.bind_some, inW_strs]
  rw [e]; rfl
theorem mm {x : Str} {s : Sd} {P : T → Sd → Prop} : wp (Zbw (yIn false (.str x) (.tup [.str "max", .str "min"]) s)) P = P (.bl (decide (x ∈ (["max", "min"] : List Str)))) s := in_strs (is := ["max", "min"]) rfl
theorem sf {x : Str} {s : Sd} {P : T → Sd → Prop} : wp (Zbw (yIn false (.str x) (.tup [.str "sealed", .str "free"]) s)) P = P (.bl (decide (x ∈ (["sealed", "free"] : List Str)))) s := in_strs (is := ["sealed", "free"]) rfl
noncomputable def Dn.w : Dn → Str
  | .num _ => "number"
  | .plus _ _ => "plus"
  | .ext mx _ => mw mx
  | .iff _ _ _ _ => "if"
noncomputable def Pn.w : Pn → Str
  | .sealed _ _ => "sealed"
  | .free _ _ _ => "free"
  | .choice _ => "choice"
  | .extend _ => "extend"
theorem Zne {s : Sd} {ts : List T} {P : T → Sd → Prop} : wp (Zbw (yLen [.lst ts] s)) P = P (.int ts.length) s := (Eq.refl _).trans rfl
theorem wi_seqL {e : DE} {δ : Ed} {s : Sd} {Q : List T × Bool → Sd → Prop} (P : T → Sd → Prop) (h : wp (e δ s) P) (hQ : ∀ t s1, P t s1 → ∃ ts, (t = .lst ts ∨ t = .tup ts) ∧ Q (ts, false) s1) : wp (Zff e δ s) Q := by
  unfold Zff
  rw [Zb7]
  refine Zas h fun t s1 hp => ?_
  obtain ⟨ts, e | e, q⟩ := hQ t s1 hp
  · subst e; exact q
  · subst e; exact q
theorem Zfu : ∀ {ns xs : List Str}, ns.Nodup → (∀ x ∈ ns, x ∈ xs) → ns.length ≤ xs.length
  | [], _, _, _ => Nat.zero_le _
  | x :: ns, xs, nd, sub => by
    obtain ⟨h1, h2⟩ := List.nodup_cons.mp nd
    have ih := Zfu (ns := ns) (xs := xs.filter fun y => decide (y ≠ x)) h2 fun y hy => List.mem_filter.mpr ⟨sub y (List.mem_cons_of_mem _ hy), decide_eq_true fun e => h1 (e ▸ hy)⟩
    have lt : (xs.filter fun y => decide (y ≠ x)).length < xs.length := List.length_filter_lt_length_iff_exists.mpr ⟨x, sub x List.mem_cons_self, by simp⟩
    rw [List.length_cons]
    omega
end Pr
namespace Pr
open PySem L2 Vs
theorem Zmd (ts : List T) (j : Nat) : cutT ts none (some (j : Int)) = ts.take j := by
  unfold cutT
  rw [HT.sIx_none, HT.sIx_nat, List.drop_zero, Nat.sub_zero]
  rcases Nat.le_total j ts.length with h | h
  · rw [Nat.min_eq_left h]
  · rw [Nat.min_eq_right h, List.take_length, List.take_of_length_le h]
theorem cut_drop (ts : List T) (j : Nat) (h : j ≤ ts.length) : cutT ts (some (j : Int)) none = ts.drop j := by
  unfold cutT
  rw [HT.sIx_none, HT.sIx_nat, Nat.min_eq_left h, List.take_of_length_le (by rw [List.length_drop]; omega)]
theorem sl_lst {s : Sd} {ts : List T} {lo hi : Option Int} {P : T → Sd → Prop} : wp (Zbw (ySl (.lst ts) lo hi s)) P = P (.lst (cutT ts lo hi)) s := (Eq.refl _).trans rfl
theorem wi_enuL {e : DE} {δ : Ed} {s : Sd} {Q : List T × Bool → Sd → Prop} (P : T → Sd → Prop) (h : wp (e δ s) P) (hQ : ∀ t s1, P t s1 → ∃ ts, t = .lst ts ∧ Q (ts, true) s1) : wp (xn_enu e δ s) Q := by
  unfold xn_enu
  rw [Zb7]
  refine Zas h fun t s1 hp => ?_
  obtain ⟨ts, e, q⟩ := hQ t s1 hp
  subst e; exact q
theorem choice {s : Sd} {k b : Nat} {t : T} {xs : List Str} {nm : Str} (h : Cx s k b) (hb : b + 80 ≤ 2 ^ 60) (hn : NmK k s t xs) (ha : Zh1 xs) (hl : xs.length ≤ 8) (hne : xs ≠ []) : wp (Zjs [.cell k, .str nm, t] s) fun r s' => ∃ (ns : List Str) (x : Str), r = (Se.mk nm (.choice ns) (.plus x 0)).t ∧ ns ≠ [] ∧ ns.Nodup ∧ (∀ x ∈ ns, x ∈ xs) ∧ x ∈ ns ∧ Cx s' k (b + 80) ∧ Sm k s s' := by
  have hpos : 0 < xs.length := by cases xs with | nil => exact absurd rfl hne | cons x xs => simp
  unfold Zjs
  refine Zgj ?_
  simp only [Zdd, Zb5, Zcq, wx_c, Zay, Zan, Zag, Zcl, Zb2, Zco, Za7, Zbo, Zat, Zbp, Zdk, Zca, Zbx, Zby, Zc1, Zdz, Zbz, Zcz, Zbr, Zd1, Zcn, Zd6, Zao, Zdu, Zb8, Zdw, Zb6, Zbf, Zdv, Zcx, Za3, Zax, Zaq, Zbm, Zbe, Za6, Zbg, Zdo, Zdt, Zcr, Zcs, Zav, Zd4, Zck, Zb3, Zcb, Za0, Zcc, Zc0, Zcv, Zd8, Zec, Zd9, Zb0, Zdl, Zds, Zdm, Zea, Zd7, Zd0, Zcw, Zbk, Zc2, Zcp, Zc3, Zcy, Zcu, Zd3, Zd5, Zd2, Zeb, Za9, Zci, Zcj, Zct, Zcm, Zbh, Zbl, Zaw, Zau, Zbb, Zbc, Zbd, Zbi, Zbj, Za8, List.map_cons, List.map_nil, List.cons_append, List.nil_append, List.length_cons, List.length_nil, List.replicate_succ, List.replicate_zero, List.set_cons_succ, List.set_cons_zero, Nat.reduceAdd, Nat.reduceSub, Nat.reduceLeDiff, Nat.reduceLT, if_true, if_false, reduceIte, Bool.false_eq_true, Nat.zero_le, true_and, and_true, wx_lc]
  refine Zas (some_ h (by omega) hn (by omega)) ?_
  rintro _ s1 ⟨ys, rfl, sub, h1, m1⟩
  have hn1 := hn.step m1
  simp only [wp_lenNm hn1.here]
  refine Zas (draw (n := xs.length) h1 (by omega) (by omega) (by omega)) ?_
  rintro _ s2 ⟨r, rfl, r0, r1, h2, m2⟩
  refine Zgl (.inl (hn1.step m2).here) r0 (by simpa using r1) fun t' ht => ?_
  obtain ⟨z, hz, rfl⟩ := List.mem_map.mp ht
  have sl : ys.length ≤ xs.length := sub.length_le
  rw [Zhc]
  refine ⟨by decide, by simp only [List.length_map, List.length_cons, List.length_nil]; show _ ≤ 100000; omega, ?_⟩
  have e1 : ys.map T.str ++ [T.str z] = (ys ++ [z]).map T.str := by simp
  rw [e1]
  generalize hws : ys ++ [z] = ws
  have wl : ws.length = ys.length + 1 := by rw [← hws]; simp
  have wm : ∀ x ∈ ws, x ∈ xs := fun x hx => by
    rw [← hws] at hx
    rcases List.mem_append.mp hx with q | q
    · exact sub.subset q
    · rw [List.mem_singleton.mp q]; exact hz
  refine wi_enuL (fun t s3 => t = .lst (ws.map T.str) ∧ s3 = s2) (by simp only [Zdd, Zb5, Zcq, wx_c, Zay, Zan, Zag, Zcl, Zb2, Zco, Za7, Zbo, Zat, Zbp, Zdk, Zca, Zbx, Zby, Zc1, Zdz, Zbz, Zcz, Zbr, Zd1, Zcn, Zd6, Zao, Zdu, Zb8, Zdw, Zb6, Zbf, Zdv, Zcx, Za3, Zax, Zaq, Zbm, Zbe, Za6, Zbg, Zdo, Zdt, Zcr, Zcs, Zav, Zd4, Zck, Zb3, Zcb, Za0, Zcc, Zc0, Zcv, Zd8, Zec, Zd9, Zb0, Zdl, Zds, Zdm, Zea, Zd7, Zd0, Zcw, Zbk, Zc2, Zcp, Zc3, Zcy, Zcu, Zd3, Zd5, Zd2, Zeb, Za9, Zci, Zcj, Zct, Zcm, Zbh, Zbl, Zaw, Zau, Zbb, Zbc, Zbd, Zbi, Zbj, Za8, List.map_cons, List.map_nil, List.cons_append, List.nil_append, List.length_cons, List.length_nil, List.replicate_succ, List.replicate_zero, List.set_cons_succ, List.set_cons_zero, Nat.reduceAdd, Nat.reduceSub, Nat.reduceLeDiff, Nat.reduceLT, if_true, if_false, reduceIte, Bool.false_eq_true, Nat.zero_le, true_and, and_true]) ?_
  rintro t3 s3 ⟨q1, q2⟩
  refine ⟨_, q1, ?_⟩
  rw [q2]
  have m12 := m1.trans m2
  refine Zas (lc_rule (k := k) (b := b + 6 * xs.length + 6) (c := 0) (fun j acc => ∃ zs : List Str, acc = zs.map T.str ∧ zs.Nodup ∧ ∀ x, x ∈ zs ↔ x ∈ ws.take j) h2 (by show (ws.map T.str).length ≤ 1000; rw [List.length_map]; omega) (by rw [Nat.zero_mul]; exact h2.bd) ⟨[], rfl, List.nodup_nil, by simp⟩ ?_) ?_
  · rintro j x acc s4 hj ⟨zs, rfl, nd, mem⟩ h4 m4
    have hj : (ws.map T.str)[j]? = some x := hj
    rw [List.getElem?_map] at hj
    obtain ⟨y, hy, rfl⟩ := Option.map_eq_some_iff.mp hj
    rw [Nat.zero_mul, Nat.add_zero] at h4
    rw [Nat.zero_mul, Nat.add_zero]
    refine ⟨_, rfl, ?_⟩
    simp only [dwip, ditm, Zdd, Zb5, Zcq, wx_c, Zay, Zan, Zag, Zcl, Zb2, Zco, Za7, Zbo, Zat, Zbp, Zdk, Zca, Zbx, Zby, Zc1, Zdz, Zbz, Zcz, Zbr, Zd1, Zcn, Zd6, Zao, Zdu, Zb8, Zdw, Zb6, Zbf, Zdv, Zcx, Za3, Zax, Zaq, Zbm, Zbe, Za6, Zbg, Zdo, Zdt, Zcr, Zcs, Zav, Zd4, Zck, Zb3, Zcb, Za0, Zcc, Zc0, Zcv, Zd8, Zec, Zd9, Zb0, Zdl, Zds, Zdm, Zea, Zd7, Zd0, Zcw, Zbk, Zc2, Zcp, Zc3, Zcy, Zcu, Zd3, Zd5, Zd2, Zeb, Za9, Zci, Zcj, Zct, Zcm, Zbh, Zbl, Zaw, Zau, Zbb, Zbc, Zbd, Zbi, Zbj, Za8, List.map_cons, List.map_nil, List.cons_append, List.nil_append, List.length_cons, List.length_nil, List.replicate_succ, List.replicate_zero, List.set_cons_succ, List.set_cons_zero, Nat.reduceAdd, Nat.reduceSub, Nat.reduceLeDiff, Nat.reduceLT, if_true, if_false, reduceIte, Bool.false_eq_true, Nat.zero_le, true_and, and_true, sl_lst, Zmd]
    rw [← List.map_take]
    rw [in_strs (is := ws.take j) rfl]
    simp only [Zdd, Zb5, Zcq, wx_c, Zay, Zan, Zag, Zcl, Zb2, Zco, Za7, Zbo, Zat, Zbp, Zdk, Zca, Zbx, Zby, Zc1, Zdz, Zbz, Zcz, Zbr, Zd1, Zcn, Zd6, Zao, Zdu, Zb8, Zdw, Zb6, Zbf, Zdv, Zcx, Za3, Zax, Zaq, Zbm, Zbe, Za6, Zbg, Zdo, Zdt, Zcr, Zcs, Zav, Zd4, Zck, Zb3, Zcb, Za0, Zcc, Zc0, Zcv, Zd8, Zec, Zd9, Zb0, Zdl, Zds, Zdm, Zea, Zd7, Zd0, Zcw, Zbk, Zc2, Zcp, Zc3, Zcy, Zcu, Zd3, Zd5, Zd2, Zeb, Za9, Zci, Zcj, Zct, Zcm, Zbh, Zbl, Zaw, Zau, Zbb, Zbc, Zbd, Zbi, Zbj, Za8, List.map_cons, List.map_nil, List.cons_append, List.nil_append, List.length_cons, List.length_nil, List.replicate_succ, List.replicate_zero, List.set_cons_succ, List.set_cons_zero, Nat.reduceAdd, Nat.reduceSub, Nat.reduceLeDiff, Nat.reduceLT, if_true, if_false, reduceIte, Bool.false_eq_true, Nat.zero_le, true_and, and_true]
    refine ite_of (fun c => ?_) fun c => ?_
    · have c : y ∉ ws.take j := by simpa using c
      refine ⟨rfl, ⟨zs ++ [y], by simp, List.nodup_append.mpr ⟨nd, by simp, fun a ha b hb => by rw [List.mem_singleton.mp hb]; exact fun e => c ((mem y).mp (e ▸ ha))⟩, fun x => ?_⟩, h4, Sm.refl _ _⟩
      rw [Zka hy, List.mem_append, List.mem_append, mem]
    · have c : y ∈ ws.take j := by simpa using c
      refine ⟨⟨zs, rfl, nd, fun x => ?_⟩, h4, Sm.refl _ _⟩
      rw [Zka hy, List.mem_append, mem, List.mem_singleton]
      exact ⟨.inl, fun q => q.elim id fun e => e ▸ c⟩
  · rintro _ s4 ⟨acc, rfl, hp, ⟨zs, rfl, nd, mem⟩, h4, m4⟩
    have mem : ∀ x, x ∈ zs ↔ x ∈ ws := fun x => by
      have q := mem x
      rw [List.take_of_length_le (by show ws.length ≤ (ws.map T.str).length; rw [List.length_map]; exact Nat.le_refl _)] at q
      exact q
    rw [Nat.zero_mul, Nat.add_zero] at h4
    have zne : zs ≠ [] := fun e => by
      have q := (mem z).mpr (by rw [← hws]; simp)
      rw [e] at q
      cases q
    have zpos : 0 < zs.length := by cases zs with | nil => exact absurd rfl zne | cons x xs => simp
    have zlen : zs.length ≤ xs.length := Zfu nd fun x hx => wm x ((mem x).mp hx)
    simp only [Zdd, Zb5, Zcq, wx_c, Zay, Zan, Zag, Zcl, Zb2, Zco, Za7, Zbo, Zat, Zbp, Zdk, Zca, Zbx, Zby, Zc1, Zdz, Zbz, Zcz, Zbr, Zd1, Zcn, Zd6, Zao, Zdu, Zb8, Zdw, Zb6, Zbf, Zdv, Zcx, Za3, Zax, Zaq, Zbm, Zbe, Za6, Zbg, Zdo, Zdt, Zcr, Zcs, Zav, Zd4, Zck, Zb3, Zcb, Za0, Zcc, Zc0, Zcv, Zd8, Zec, Zd9, Zb0, Zdl, Zds, Zdm, Zea, Zd7, Zd0, Zcw, Zbk, Zc2, Zcp, Zc3, Zcy, Zcu, Zd3, Zd5, Zd2, Zeb, Za9, Zci, Zcj, Zct, Zcm, Zbh, Zbl, Zaw, Zau, Zbb, Zbc, Zbd, Zbi, Zbj, Za8, List.map_cons, List.map_nil, List.cons_append, List.nil_append, List.length_cons, List.length_nil, List.replicate_succ, List.replicate_zero, List.set_cons_succ, List.set_cons_zero, Nat.reduceAdd, Nat.reduceSub, Nat.reduceLeDiff, Nat.reduceLT, if_true, if_false, reduceIte, Bool.false_eq_true, Nat.zero_le, true_and, and_true, Zne, List.length_map]
    refine Zas (draw (n := zs.length) h4 (by omega) (by omega) (by omega)) ?_
    rintro _ s5 ⟨r', rfl, r2, r3, h5, m5⟩
    refine Zgl (.inl rfl) r2 (by simpa using r3) fun t' ht => ?_
    obtain ⟨y, hy, rfl⟩ := List.mem_map.mp ht
    have m := (m12.trans m4).trans m5
    simp only [Zdd, Zb5, Zcq, wx_c, Zay, Zan, Zag, Zcl, Zb2, Zco, Za7, Zbo, Zat, Zbp, Zdk, Zca, Zbx, Zby, Zc1, Zdz, Zbz, Zcz, Zbr, Zd1, Zcn, Zd6, Zao, Zdu, Zb8, Zdw, Zb6, Zbf, Zdv, Zcx, Za3, Zax, Zaq, Zbm, Zbe, Za6, Zbg, Zdo, Zdt, Zcr, Zcs, Zav, Zd4, Zck, Zb3, Zcb, Za0, Zcc, Zc0, Zcv, Zd8, Zec, Zd9, Zb0, Zdl, Zds, Zdm, Zea, Zd7, Zd0, Zcw, Zbk, Zc2, Zcp, Zc3, Zcy, Zcu, Zd3, Zd5, Zd2, Zeb, Za9, Zci, Zcj, Zct, Zcm, Zbh, Zbl, Zaw, Zau, Zbb, Zbc, Zbd, Zbi, Zbj, Za8, List.map_cons, List.map_nil, List.cons_append, List.nil_append, List.length_cons, List.length_nil, List.replicate_succ, List.replicate_zero, List.set_cons_succ, List.set_cons_zero, Nat.reduceAdd, Nat.reduceSub, Nat.reduceLeDiff, Nat.reduceLT, if_true, if_false, reduceIte, Bool.false_eq_true, Nat.zero_le, true_and, and_true, m.take]
    refine ⟨by decide, by decide, by decide, pmono (Se.pure ⟨nm, .choice zs, .plus y 0⟩), h5.pure, zs, y, rfl, zne, nd, fun x hx => wm x ((mem x).mp hx), hy, h5.mono (by omega) hb, m⟩
end Pr
namespace Pr
open PySem L2 Vs
/-! ### defs without a purse: what they answer, the cells as before -/
noncomputable abbrev Is {α : Type} (r : Rd α) (a : α) (s : Sd) : Prop := wp r fun x s' => x = a ∧ s' = s
theorem Is.eq {α : Type} {r : Rd α} {a : α} {s : Sd} (h : Is r a s) : r = .ok a s := by
  obtain ⟨x, s', e, rfl, rfl⟩ := Zlm h
  exact e
theorem Is.wp {α : Type} {r : Rd α} {a : α} {s : Sd} (h : Is r a s) (P : α → Sd → Prop) : wp r P = P a s := by rw [h.eq, Zdd]
theorem Is.of {α : Type} {r : Rd α} {a : α} {s : Sd} (h : r = .ok a s) : Is r a s := by rw [h]; exact ⟨rfl, rfl⟩
theorem Zez {k : Nat} {b : DSt} {ts : List T} {s : Sd} {r : T} (hs : PureS s) (hr : pure? PD r = true)
    (h : wp (b (ts.map some ++ List.replicate (k - ts.length) none) s) fun f s1 => f = .rt r ∧ s1 = s) : Is (Ze8 k b ts s) r s := by
  refine Zgj (Zas h ?_)
  rintro _ _ ⟨rfl, rfl⟩
  exact ⟨hr, hs.take _, rfl, Zhk _⟩
/-! ### comprehensions -/
theorem Zce {α β : Type} (a : α) (s : Sd) (k : α → Sd → Rd β) : (Rd.ok a s).bind k = k a s := rfl
theorem fr_own {s s' : Sd} {acc : List T} (hd : s'[s.length]? = some (.lst acc)) (ha : ∀ y ∈ acc, pure? 11 y = true) : fr s.length s' FU (.cell s.length) = some (.lst acc) := by
  show (if s.length < s.length then some (T.cell s.length) else match s'[s.length]? with
    | some (.lst ts) => (trav (fr s.length s' 29) ts).map T.lst
    | some (.dic ts) => (Zjd (fr s.length s' 29) ts).map T.dic
    | some (.ins i ts) => (Zjj (fr s.length s' 29) ts).map (T.ins i)
    | _ => none) = some (.lst acc)
  rw [if_neg (Nat.lt_irrefl _), hd]
  dsimp only
  rw [Zja fun y hy => Zfv _ _ 11 29 y (by decide) (ha y hy)]
  rfl
theorem pureL {acc : List T} (ha : ∀ y ∈ acc, pure? 11 y = true) : Zhj (.lst acc) = true := List.all_eq_true.mpr fun y hy => Zc9 11 (by decide) (ha y hy)
theorem set_last {s : Sd} {o o' : Vs.TO} : (s ++ [o]).set s.length o' = s ++ [o'] := by simp
theorem Zfz {s : Sd} {o : Vs.TO} : (s ++ [o])[s.length]? = some o := by simp
section
variable {α : Type} {g : DG} {t : DTm} {e k : DE} {δ0 : Ed} {s : Sd} {tr : α → T}
/-- the items that pass, each with what is made of it -/
theorem comp_is (F : α → Option T) (hs : PureS s) : ∀ (ds : List α) (i : Nat) (acc : List T), i + ds.length ≤ 1000 → acc.length ≤ i → (∀ y ∈ acc, pure? 11 y = true) →
    (∀ (a : α) (acc : List T), a ∈ ds → (∀ y ∈ acc, pure? 11 y = true) → PureS (s ++ [.lst acc]) → ∃ δ1, g (tr a) δ0 = some δ1 ∧ match F a with
      | some y => pure? 11 y = true ∧ Is (t δ1 (s ++ [.lst acc])) true (s ++ [.lst acc]) ∧ Is (e δ1 (s ++ [.lst acc])) y (s ++ [.lst acc])
      | none => Is (t δ1 (s ++ [.lst acc])) false (s ++ [.lst acc])) →
    ∃ acc', dcompL false g t e δ0 s.length i (ds.map tr) (s ++ [.lst acc]) = .ok (.cell s.length) (s ++ [.lst acc']) ∧ acc' = acc ++ ds.filterMap F ∧ (∀ y ∈ acc', pure? 11 y = true)
  | [], i, acc, _, _, ha, _ => ⟨acc, rfl, by simp, ha⟩
  | a :: ds, i, acc, hl, hal, ha, step => by
    rw [List.length_cons] at hl
    show ∃ acc', dcompL false g t e δ0 s.length i (tr a :: ds.map tr) (s ++ [.lst acc]) = _ ∧ _ ∧ _
    unfold dcompL
    obtain ⟨δ1, q, w⟩ := step a acc List.mem_cons_self ha (hs.app (pureL ha))
    have q : g (ditm false i (tr a)) δ0 = some δ1 := q
    rw [q]
    dsimp only
    have nx : ∀ acc2 : List T, (∀ y ∈ acc2, pure? 11 y = true) → acc2.length ≤ i + 1 → ∃ acc', dcompL false g t e δ0 s.length (i + 1) (ds.map tr) (s ++ [.lst acc2]) = .ok (.cell s.length) (s ++ [.lst acc']) ∧ acc' = acc2 ++ ds.filterMap F ∧ (∀ y ∈ acc', pure? 11 y = true) := fun acc2 h2 h3 =>
      comp_is F hs ds (i + 1) acc2 (by omega) h3 h2 fun b acc3 hj h4 => step b acc3 (List.mem_cons_of_mem _ hj) h4
    cases hF : F a with
    | none =>
      rw [hF] at w
      have w : Is (t δ1 (s ++ [.lst acc])) false (s ++ [.lst acc]) := w
      obtain ⟨acc', e1, e2, e3⟩ := nx acc ha (by omega)
      refine ⟨acc', ?_, ?_, e3⟩
      · rw [w.eq, Zce, if_neg Bool.false_ne_true]
        exact e1
      · rw [List.filterMap_cons, hF]; exact e2
    | some y =>
      rw [hF] at w
      obtain ⟨w0, w1, w2⟩ := (w : pure? 11 y = true ∧ Is (t δ1 (s ++ [.lst acc])) true (s ++ [.lst acc]) ∧ Is (e δ1 (s ++ [.lst acc])) y (s ++ [.lst acc]))
      have ha' : ∀ z ∈ acc ++ [y], pure? 11 z = true := fun z hz => by
        rcases List.mem_append.mp hz with q | q
        · exact ha z q
        · rw [List.mem_singleton.mp q]; exact w0
      obtain ⟨acc', e1, e2, e3⟩ := nx (acc ++ [y]) ha' (by simp; omega)
      refine ⟨acc', ?_, ?_, e3⟩
      · rw [w1.eq, Zce, if_pos rfl, w2.eq, Zce, Zfz]
        dsimp only
        rw [if_pos (by show acc.length < 100000; omega), set_last]
        exact e1
      · rw [List.filterMap_cons, hF, e2, List.append_assoc]; rfl
theorem lc_is {I : DI} {vs : List Nat} {δ : Ed} (ds : List α) (tr : α → T) (F : α → Option T) (hs : PureS s) (hI : Is (I δ s) (ds.map tr, false) s) (hl : ds.length ≤ 1000)
    (step : ∀ (a : α) (acc : List T), a ∈ ds → (∀ y ∈ acc, pure? 11 y = true) → PureS (s ++ [.lst acc]) → ∃ δ1, g (tr a) (dwip δ vs) = some δ1 ∧ match F a with
      | some y => pure? 11 y = true ∧ Is (t δ1 (s ++ [.lst acc])) true (s ++ [.lst acc]) ∧ Is (e δ1 (s ++ [.lst acc])) y (s ++ [.lst acc])
      | none => Is (t δ1 (s ++ [.lst acc])) false (s ++ [.lst acc])) : Is (x_lc I g t e vs δ s) (.lst (ds.filterMap F)) s := by
  unfold x_lc
  rw [hI.eq]
  show Is (pop s.length (fun s2 t => fr s.length s2 FU t) (dcompL false g t e (dwip δ vs) s.length 0 (ds.map tr) (s ++ [.lst []]))) _ _
  obtain ⟨acc', e1, e2, e3⟩ := comp_is F hs ds 0 [] (by omega) (Nat.le_refl _) (fun _ hy => nomatch hy) step
  rw [e1]
  unfold pop
  dsimp only
  rw [fr_own Zfz e3, List.take_left, Zfk _ _ hs]
  rw [List.nil_append] at e2
  rw [e2]
  exact ⟨rfl, rfl⟩
/-- one for each item -/
theorem Zk9 {I : DI} {vs : List Nat} {δ : Ed} (ds : List α) (tr G : α → T) (hs : PureS s) (hI : Is (I δ s) (ds.map tr, false) s) (hl : ds.length ≤ 1000)
    (step : ∀ (a : α) (acc : List T), a ∈ ds → (∀ y ∈ acc, pure? 11 y = true) → PureS (s ++ [.lst acc]) → ∃ δ1, g (tr a) (dwip δ vs) = some δ1 ∧ pure? 11 (G a) = true ∧ Is (e δ1 (s ++ [.lst acc])) (G a) (s ++ [.lst acc])) : Is (x_lc I g Zfw e vs δ s) (.lst (ds.map G)) s := by
  have h := lc_is (g := g) (t := Zfw) (e := e) (vs := vs) ds tr (fun a => some (G a)) hs hI hl fun a acc ha hp hq => by
    obtain ⟨δ1, q, w1, w2⟩ := step a acc ha hp hq
    exact ⟨δ1, q, w1, ⟨rfl, rfl⟩, w2⟩
  rwa [show ds.filterMap (fun a => some (G a)) = ds.map G from by rw [← List.filterMap_eq_map]; rfl] at h
theorem Zk5 {α β : Type} (p : α → Bool) (tr : α → β) : ∀ ds : List α, ds.filterMap (fun a => if p a = true then some (tr a) else none) = (ds.filter p).map tr
  | [] => rfl
  | a :: ds => by
    rw [List.filterMap_cons, List.filter_cons, Zk5 p tr ds]
    cases p a <;> rfl
/-- the items that pass a test, as they are -/
theorem lcf_is {I : DI} {vs : List Nat} {δ : Ed} (ds : List α) (tr : α → T) (p : α → Bool) (hs : PureS s) (hI : Is (I δ s) (ds.map tr, false) s) (hl : ds.length ≤ 1000) (hp : ∀ a, pure? 11 (tr a) = true)
    (step : ∀ (a : α) (acc : List T), a ∈ ds → (∀ y ∈ acc, pure? 11 y = true) → PureS (s ++ [.lst acc]) → ∃ δ1, g (tr a) (dwip δ vs) = some δ1 ∧ Is (t δ1 (s ++ [.lst acc])) (p a) (s ++ [.lst acc]) ∧ Is (e δ1 (s ++ [.lst acc])) (tr a) (s ++ [.lst acc])) : Is (x_lc I g t e vs δ s) (.lst ((ds.filter p).map tr)) s := by
  have h := lc_is (g := g) (t := t) (e := e) (vs := vs) ds tr (fun a => if p a = true then some (tr a) else none) hs hI hl fun a acc ha hq hr => by
    obtain ⟨δ1, q, w1, w2⟩ := step a acc ha hq hr
    refine ⟨δ1, q, ?_⟩
    cases e : p a with
    | true => rw [if_pos rfl]; rw [e] at w1; exact ⟨hp a, w1, w2⟩
    | false => rw [if_neg Bool.false_ne_true]; rw [e] at w1; exact w1
  rwa [Zk5] at h
end
end Pr
namespace Pr
open PySem L2 Vs
theorem Znv : (("free" : Str) = "sealed") = False := eq_false (by decide)
theorem se_free_choice : (("free" : Str) = "choice") = False := eq_false (by decide)
theorem se_free_extend : (("free" : Str) = "extend") = False := eq_false (by decide)
theorem se_free_number : (("free" : Str) = "number") = False := eq_false (by decide)
theorem se_free_plus : (("free" : Str) = "plus") = False := eq_false (by decide)
theorem se_free_max : (("free" : Str) = "max") = False := eq_false (by decide)
theorem se_free_min : (("free" : Str) = "min") = False := eq_false (by decide)
theorem se_free_if : (("free" : Str) = "if") = False := eq_false (by decide)
theorem se_free_set : (("free" : Str) = "set") = False := eq_false (by decide)
theorem se_free_add : (("free" : Str) = "add") = False := eq_false (by decide)
theorem se_free_seal : (("free" : Str) = "seal") = False := eq_false (by decide)
theorem Zn2 : (("sealed" : Str) = "free") = False := eq_false (by decide)
theorem Zlp : (("sealed" : Str) = "choice") = False := eq_false (by decide)
theorem Zlr : (("sealed" : Str) = "extend") = False := eq_false (by decide)
theorem Zlu : (("sealed" : Str) = "number") = False := eq_false (by decide)
theorem se_sealed_plus : (("sealed" : Str) = "plus") = False := eq_false (by decide)
theorem se_sealed_max : (("sealed" : Str) = "max") = False := eq_false (by decide)
theorem se_sealed_min : (("sealed" : Str) = "min") = False := eq_false (by decide)
theorem se_sealed_if : (("sealed" : Str) = "if") = False := eq_false (by decide)
theorem se_sealed_set : (("sealed" : Str) = "set") = False := eq_false (by decide)
theorem se_sealed_add : (("sealed" : Str) = "add") = False := eq_false (by decide)
theorem se_sealed_seal : (("sealed" : Str) = "seal") = False := eq_false (by decide)
theorem Znx : (("choice" : Str) = "free") = False := eq_false (by decide)
theorem Zlv : (("choice" : Str) = "sealed") = False := eq_false (by decide)
theorem Zlx : (("choice" : Str) = "extend") = False := eq_false (by decide)
theorem Zl3 : (("choice" : Str) = "number") = False := eq_false (by decide)
theorem Zn3 : (("choice" : Str) = "plus") = False := eq_false (by decide)
theorem se_choice_max : (("choice" : Str) = "max") = False := eq_false (by decide)
theorem se_choice_min : (("choice" : Str) = "min") = False := eq_false (by decide)
theorem se_choice_if : (("choice" : Str) = "if") = False := eq_false (by decide)
theorem se_choice_set : (("choice" : Str) = "set") = False := eq_false (by decide)
theorem se_choice_add : (("choice" : Str) = "add") = False := eq_false (by decide)
theorem se_choice_seal : (("choice" : Str) = "seal") = False := eq_false (by decide)
theorem se_extend_free : (("extend" : Str) = "free") = False := eq_false (by decide)
theorem Zli : (("extend" : Str) = "sealed") = False := eq_false (by decide)
theorem Zlw : (("extend" : Str) = "choice") = False := eq_false (by decide)
theorem Zlt : (("extend" : Str) = "number") = False := eq_false (by decide)
theorem Zno : (("extend" : Str) = "plus") = False := eq_false (by decide)
theorem se_extend_max : (("extend" : Str) = "max") = False := eq_false (by decide)
theorem se_extend_min : (("extend" : Str) = "min") = False := eq_false (by decide)
theorem se_extend_if : (("extend" : Str) = "if") = False := eq_false (by decide)
theorem se_extend_set : (("extend" : Str) = "set") = False := eq_false (by decide)
theorem se_extend_add : (("extend" : Str) = "add") = False := eq_false (by decide)
theorem Zn1 : (("extend" : Str) = "seal") = False := eq_false (by decide)
theorem se_number_free : (("number" : Str) = "free") = False := eq_false (by decide)
theorem Zlk : (("number" : Str) = "sealed") = False := eq_false (by decide)
theorem Zlh : (("number" : Str) = "choice") = False := eq_false (by decide)
theorem Zlq : (("number" : Str) = "extend") = False := eq_false (by decide)
theorem se_number_plus : (("number" : Str) = "plus") = False := eq_false (by decide)
theorem se_number_max : (("number" : Str) = "max") = False := eq_false (by decide)
theorem se_number_min : (("number" : Str) = "min") = False := eq_false (by decide)
theorem se_number_if : (("number" : Str) = "if") = False := eq_false (by decide)
theorem se_number_set : (("number" : Str) = "set") = False := eq_false (by decide)
theorem se_number_add : (("number" : Str) = "add") = False := eq_false (by decide)
theorem Znp : (("number" : Str) = "seal") = False := eq_false (by decide)
theorem se_plus_free : (("plus" : Str) = "free") = False := eq_false (by decide)
theorem Znq : (("plus" : Str) = "sealed") = False := eq_false (by decide)
theorem se_plus_choice : (("plus" : Str) = "choice") = False := eq_false (by decide)
theorem se_plus_extend : (("plus" : Str) = "extend") = False := eq_false (by decide)
theorem Znw : (("plus" : Str) = "number") = False := eq_false (by decide)
theorem se_plus_max : (("plus" : Str) = "max") = False := eq_false (by decide)
theorem se_plus_min : (("plus" : Str) = "min") = False := eq_false (by decide)
theorem se_plus_if : (("plus" : Str) = "if") = False := eq_false (by decide)
theorem se_plus_set : (("plus" : Str) = "set") = False := eq_false (by decide)
theorem se_plus_add : (("plus" : Str) = "add") = False := eq_false (by decide)
theorem se_plus_seal : (("plus" : Str) = "seal") = False := eq_false (by decide)
theorem se_max_free : (("max" : Str) = "free") = False := eq_false (by decide)
theorem se_max_sealed : (("max" : Str) = "sealed") = False := eq_false (by decide)
theorem se_max_choice : (("max" : Str) = "choice") = False := eq_false (by decide)
theorem se_max_extend : (("max" : Str) = "extend") = False := eq_false (by decide)
theorem se_max_number : (("max" : Str) = "number") = False := eq_false (by decide)
theorem se_max_plus : (("max" : Str) = "plus") = False := eq_false (by decide)
theorem se_max_min : (("max" : Str) = "min") = False := eq_false (by decide)
theorem se_max_if : (("max" : Str) = "if") = False := eq_false (by decide)
theorem se_max_set : (("max" : Str) = "set") = False := eq_false (by decide)
theorem se_max_add : (("max" : Str) = "add") = False := eq_false (by decide)
theorem se_max_seal : (("max" : Str) = "seal") = False := eq_false (by decide)
theorem se_min_free : (("min" : Str) = "free") = False := eq_false (by decide)
theorem se_min_sealed : (("min" : Str) = "sealed") = False := eq_false (by decide)
theorem se_min_choice : (("min" : Str) = "choice") = False := eq_false (by decide)
theorem se_min_extend : (("min" : Str) = "extend") = False := eq_false (by decide)
theorem se_min_number : (("min" : Str) = "number") = False := eq_false (by decide)
theorem se_min_plus : (("min" : Str) = "plus") = False := eq_false (by decide)
theorem se_min_max : (("min" : Str) = "max") = False := eq_false (by decide)
theorem se_min_if : (("min" : Str) = "if") = False := eq_false (by decide)
theorem se_min_set : (("min" : Str) = "set") = False := eq_false (by decide)
theorem se_min_add : (("min" : Str) = "add") = False := eq_false (by decide)
theorem se_min_seal : (("min" : Str) = "seal") = False := eq_false (by decide)
theorem se_if_free : (("if" : Str) = "free") = False := eq_false (by decide)
theorem se_if_sealed : (("if" : Str) = "sealed") = False := eq_false (by decide)
theorem se_if_choice : (("if" : Str) = "choice") = False := eq_false (by decide)
theorem se_if_extend : (("if" : Str) = "extend") = False := eq_false (by decide)
theorem se_if_number : (("if" : Str) = "number") = False := eq_false (by decide)
theorem se_if_plus : (("if" : Str) = "plus") = False := eq_false (by decide)
theorem se_if_max : (("if" : Str) = "max") = False := eq_false (by decide)
theorem se_if_min : (("if" : Str) = "min") = False := eq_false (by decide)
theorem se_if_set : (("if" : Str) = "set") = False := eq_false (by decide)
theorem se_if_add : (("if" : Str) = "add") = False := eq_false (by decide)
theorem se_if_seal : (("if" : Str) = "seal") = False := eq_false (by decide)
theorem se_set_free : (("set" : Str) = "free") = False := eq_false (by decide)
theorem se_set_sealed : (("set" : Str) = "sealed") = False := eq_false (by decide)
theorem se_set_choice : (("set" : Str) = "choice") = False := eq_false (by decide)
theorem se_set_extend : (("set" : Str) = "extend") = False := eq_false (by decide)
theorem se_set_number : (("set" : Str) = "number") = False := eq_false (by decide)
theorem se_set_plus : (("set" : Str) = "plus") = False := eq_false (by decide)
theorem se_set_max : (("set" : Str) = "max") = False := eq_false (by decide)
theorem se_set_min : (("set" : Str) = "min") = False := eq_false (by decide)
theorem se_set_if : (("set" : Str) = "if") = False := eq_false (by decide)
theorem se_set_add : (("set" : Str) = "add") = False := eq_false (by decide)
theorem se_set_seal : (("set" : Str) = "seal") = False := eq_false (by decide)
theorem se_add_free : (("add" : Str) = "free") = False := eq_false (by decide)
theorem se_add_sealed : (("add" : Str) = "sealed") = False := eq_false (by decide)
theorem se_add_choice : (("add" : Str) = "choice") = False := eq_false (by decide)
theorem se_add_extend : (("add" : Str) = "extend") = False := eq_false (by decide)
theorem se_add_number : (("add" : Str) = "number") = False := eq_false (by decide)
theorem se_add_plus : (("add" : Str) = "plus") = False := eq_false (by decide)
theorem se_add_max : (("add" : Str) = "max") = False := eq_false (by decide)
theorem se_add_min : (("add" : Str) = "min") = False := eq_false (by decide)
theorem se_add_if : (("add" : Str) = "if") = False := eq_false (by decide)
theorem se_add_set : (("add" : Str) = "set") = False := eq_false (by decide)
theorem se_add_seal : (("add" : Str) = "seal") = False := eq_false (by decide)
theorem se_seal_free : (("seal" : Str) = "free") = False := eq_false (by decide)
theorem se_seal_sealed : (("seal" : Str) = "sealed") = False := eq_false (by decide)
theorem se_seal_choice : (("seal" : Str) = "choice") = False := eq_false (by decide)
theorem Znz : (("seal" : Str) = "extend") = False := eq_false (by decide)
theorem se_seal_number : (("seal" : Str) = "number") = False := eq_false (by decide)
theorem se_seal_plus : (("seal" : Str) = "plus") = False := eq_false (by decide)
theorem se_seal_max : (("seal" : Str) = "max") = False := eq_false (by decide)
theorem se_seal_min : (("seal" : Str) = "min") = False := eq_false (by decide)
theorem se_seal_if : (("seal" : Str) = "if") = False := eq_false (by decide)
theorem se_seal_set : (("seal" : Str) = "set") = False := eq_false (by decide)
theorem se_seal_add : (("seal" : Str) = "add") = False := eq_false (by decide)
section
variable {s : Sd} {P : T → Sd → Prop} {a b c d e : T}
theorem len_t1 : wp (Zbw (yLen [.tup [a]] s)) P = P (.int 1) s := (Eq.refl _).trans rfl
theorem len_t2 : wp (Zbw (yLen [.tup [a, b]] s)) P = P (.int 2) s := (Eq.refl _).trans rfl
theorem len_t3 : wp (Zbw (yLen [.tup [a, b, c]] s)) P = P (.int 3) s := (Eq.refl _).trans rfl
theorem len_t4 : wp (Zbw (yLen [.tup [a, b, c, d]] s)) P = P (.int 4) s := (Eq.refl _).trans rfl
theorem len_t5 : wp (Zbw (yLen [.tup [a, b, c, d, e]] s)) P = P (.int 5) s := (Eq.refl _).trans rfl
end
end Pr
namespace Pr
open PySem L2 Vs
theorem Zf8 {e : DE} {δ : Ed} {s : Sd} {ts : List T} (h : Is (e δ s) (.lst ts) s) : Is (Zff e δ s) (ts, false) s := by
  unfold Zff; rw [h.eq]; exact ⟨rfl, rfl⟩
theorem Zaj {i : Nat} {δ : Ed} {s : Sd} {t : T} (h : δ[i]? = some (some t)) : Is (Zad i δ s) t s := by
  unfold Zad; rw [h]; exact ⟨rfl, rfl⟩
section
variable {s : Sd} {P : T → Sd → Prop}
theorem ty_int (i : Int) : tyT s (.int i) = some "int" := rfl
theorem ty_str (x : Str) : tyT s (.str x) = some "str" := rfl
theorem Zg9 (k : String) : subT k k = true := by unfold subT; simp
theorem sb_ib : subT "int" "bool" = false := by decide
theorem wp_lenS {x : Str} (h : x.length ≤ LIM) : wp (Zbw (yLen [.str x] s)) P = P (.int x.length) s := by
  show wp (Zbw ((if x.length ≤ LIM then some (.int x.length, s) else none))) P = _
  rw [if_pos h]; rfl
theorem wp_strf {f : Str → Bool} {x : Str} : wp (Zbw (yStr f (.str x) [] s)) P = P (.bl (f x)) s := (Eq.refl _).trans rfl
theorem is_strs {x : Str} : isST s (.str x) = true := rfl
theorem Zje (x : Str) : x.cps.toList.length = x.length := by rfl
theorem nm_ascii {x : Str} (h : isNm x = true) : Txt.isascii x = true := by
  unfold Txt.isascii
  rw [← Array.all_toList, List.all_eq_true]
  intro c hc
  have := Zjh h hc
  exact decide_eq_true (by omega)
theorem Zml : ∀ c : Nat, c < 128 → 97 ≤ c → c ≤ 122 → Unicode.isAlpha c = true ∧ Unicode.isLower c = true ∧ (Unicode.isUpper c || Unicode.isTitle c) = false := by decide +kernel
theorem nm_alpha {x : Str} (h : isNm x = true) : Txt.isalpha x = true := by
  unfold Txt.isalpha
  have hl := Zg4 h
  rw [Bool.and_eq_true]
  refine ⟨decide_eq_true (by omega), ?_⟩
  rw [← Array.all_toList, List.all_eq_true]
  intro c hc
  have := Zjh h hc
  exact (Zml c (by omega) this.1 this.2).1
theorem nm_lower {x : Str} (h : isNm x = true) : Txt.islower x = true := by
  unfold Txt.islower
  have hl := Zg4 h
  rw [Bool.and_eq_true]
  constructor
  · rw [← Array.any_toList, List.any_eq_true]
    have h1 : 0 < x.cps.toList.length := by rw [Zje]; omega
    have hc : x.cps.toList[0] ∈ x.cps.toList := List.getElem_mem h1
    have := Zjh h hc
    exact ⟨_, hc, (Zml _ (by omega) this.1 this.2).2.1⟩
  · rw [Bool.not_eq_true', ← Array.any_toList, List.any_eq_false]
    intro c hc
    have := Zjh h hc
    rw [(Zml c (by omega) this.1 this.2).2.2]
    exact Bool.false_ne_true
end
/-! ### names, numbers -/
section
variable {s : Sd} (hs : PureS s)
include hs
theorem is_name_ok {x : Str} (h : isNm x = true) : Is (Zfs [.str x]  s) (.bl true) s := by
  refine Zez hs rfl ?_
  have hl := Zg4 h
  have hx : x.length ≤ LIM := Nat.le_trans hl.2 (by decide)
  simp only [Zdd, Zb5, Zcq, wx_c, Zay, Zan, Zag, Zcl, Zb2, Zco, Za7, Zbo, Zat, Zbp, Zdk, Zca, Zbx, Zby, Zc1, Zdz, Zbz, Zcz, Zbr, Zd1, Zcn, Zd6, Zao, Zdu, Zb8, Zdw, Zb6, Zbf, Zdv, Zcx, Za3, Zax, Zaq, Zbm, Zbe, Za6, Zbg, Zdo, Zdt, Zcr, Zcs, Zav, Zd4, Zck, Zb3, Zcb, Za0, Zcc, Zc0, Zcv, Zd8, Zec, Zd9, Zb0, Zdl, Zds, Zdm, Zea, Zd7, Zd0, Zcw, Zbk, Zc2, Zcp, Zc3, Zcy, Zcu, Zd3, Zd5, Zd2, Zeb, Za9, Zci, Zcj, Zct, Zcm, Zbh, Zbl, Zaw, Zau, Zbb, Zbc, Zbd, Zbi, Zbj, Za8, List.map_cons, List.map_nil, List.cons_append, List.nil_append, List.length_cons, List.length_nil, List.replicate_succ, List.replicate_zero, List.set_cons_succ, List.set_cons_zero, Nat.reduceAdd, Nat.reduceSub, Nat.reduceLeDiff, Nat.reduceLT, if_true, if_false, reduceIte, Bool.false_eq_true, Nat.zero_le, true_and, and_true, ty_str, Zg9, wp_lenS hx, Bool.not_true, wp_strf, is_strs, nm_ascii h, nm_alpha h, nm_lower h]
  refine ite_of (fun c => ?_) fun _ => trivial
  have := of_decide_eq_true c
  omega
theorem Zmy (i : Int) : Is (Zfm [.int i] s) (.bl true) s := by
  refine Zez hs rfl ?_
  simp only [Zdd, Zb5, Zcq, wx_c, Zay, Zan, Zag, Zcl, Zb2, Zco, Za7, Zbo, Zat, Zbp, Zdk, Zca, Zbx, Zby, Zc1, Zdz, Zbz, Zcz, Zbr, Zd1, Zcn, Zd6, Zao, Zdu, Zb8, Zdw, Zb6, Zbf, Zdv, Zcx, Za3, Zax, Zaq, Zbm, Zbe, Za6, Zbg, Zdo, Zdt, Zcr, Zcs, Zav, Zd4, Zck, Zb3, Zcb, Za0, Zcc, Zc0, Zcv, Zd8, Zec, Zd9, Zb0, Zdl, Zds, Zdm, Zea, Zd7, Zd0, Zcw, Zbk, Zc2, Zcp, Zc3, Zcy, Zcu, Zd3, Zd5, Zd2, Zeb, Za9, Zci, Zcj, Zct, Zcm, Zbh, Zbl, Zaw, Zau, Zbb, Zbc, Zbd, Zbi, Zbj, Za8, List.map_cons, List.map_nil, List.cons_append, List.nil_append, List.length_cons, List.length_nil, List.replicate_succ, List.replicate_zero, List.set_cons_succ, List.set_cons_zero, Nat.reduceAdd, Nat.reduceSub, Nat.reduceLeDiff, Nat.reduceLT, if_true, if_false, reduceIte, Bool.false_eq_true, Nat.zero_le, true_and, and_true, ty_int, Zg9, sb_ib, Bool.not_false]
omit hs in
theorem in_dic {x : Str} {kvs : List (Key × T)} {P : T → Sd → Prop} : wp (Zbw (yIn false (.str x) (.dic kvs) s)) P = P (.bl (valT kvs (.inr x)).isSome) s := (Eq.refl _).trans rfl
omit hs in
theorem all_true {α : Type} (ds : List α) {P : T → Sd → Prop} : wp (Zbw (yAll [.lst (ds.map fun _ => .bl true)] s)) P = P (.bl true) s := by
  have e : allBT (ds.map fun _ => T.bl true) = some (ds.map fun _ => true) := by
    induction ds with
    | nil => rfl
    | cons d ds ih =>
      show (allBT (ds.map fun _ => T.bl true)).map _ = _
      rw [ih]; rfl
  show wp (Zbw ((allBT (ds.map fun _ => T.bl true)).map fun bs => (T.bl (bs.all id), s))) P = _
  rw [e]
  have e2 : (ds.map fun _ => true).all id = true := by simp
  show P (.bl ((ds.map fun _ => true).all id)) s = _
  rw [e2]
omit hs in
theorem strs_of : ∀ xs : List Str, strsT (xs.map T.str) = some xs
  | [] => rfl
  | x :: xs => by
    show (strsT (xs.map T.str)).map _ = _
    rw [strs_of xs]; rfl
omit hs in
theorem fmS_nd {xs : List Str} (h : xs.Nodup) : fmS xs = xs := by
  have key : ∀ (xs acc : List Str), (acc ++ xs).Nodup → xs.foldl addS acc = acc ++ xs := by
    intro xs
    induction xs with
    | nil => intro acc _; simp
    | cons x xs ih =>
      intro acc nd
      have nx : x ∉ acc := fun z => by
        have := (List.nodup_append.mp nd).2.2 x z x List.mem_cons_self
        exact this rfl
      rw [List.foldl_cons]
      have e : addS acc x = acc ++ [x] := by
        unfold addS
        simp [nx]
      rw [e, ih (acc ++ [x]) (by simpa using nd)]
      simp
  exact key xs [] (by simpa using h)
omit hs in
theorem wp_lenset {a : DE} {δ : Ed} {xs : List Str} {P : T → Sd → Prop} (h : Is (a δ s) (.lst (xs.map T.str)) s) (nd : xs.Nodup) (hl : xs.length < 4000) : wp (x_lenset a δ s) P = P (.int xs.length) s := by
  unfold x_lenset
  rw [h.eq, Zce]
  show wp (match strsT (xs.map T.str) with
    | some xs => if xs.length < 4000 then .ok (.int (fmS xs).length) s else .bad
    | none => .bad) P = _
  rw [strs_of]
  dsimp only
  rw [if_pos hl, fmS_nd nd, Zdd]
end
end Pr
namespace Pr
open PySem L2 Vs
/-! ### lists of settings -/
noncomputable abbrev nms (ss : List Se) : List Str := ss.map Se.nm
structure Good (ss : List Se) : Prop where
  nd : (nms ss).Nodup
  ok : ∀ e ∈ ss, isNm e.nm = true ∧ e.ok (nms ss)
  len : ss.length ≤ 100
section
variable {s : Sd} {P : T → Sd → Prop}
theorem list_lst {ts : List T} : wp (Zbw (Zjq [.lst ts] s)) P = P (.lst ts) s := (Eq.refl _).trans rfl
theorem tuple_lst {ts : List T} : wp (Zbw (yTuple [.lst ts] s)) P = P (.tup ts) s := (Eq.refl _).trans rfl
end
section
variable {s : Sd} (hs : PureS s)
include hs
/-! ### what is mentioned -/
end
noncomputable def On.nms : On → Option Str
  | .nm x => some x
  | .num _ => none
noncomputable def Dn.ops : Dn → List On
  | .num i => [.num i]
  | .plus x i => [.nm x, .num i]
  | .ext _ os => os
  | .iff a b c d => [a, b, c, d]
noncomputable def Dn.nms (d : Dn) : List Str := d.ops.filterMap On.nms
noncomputable def Pn.nms : Pn → List Str
  | .sealed _ _ => []
  | .free _ _ ns => ns
  | .choice ns => ns
  | .extend ns => ns
noncomputable def Se.ms (e : Se) : List Str := e.df.nms ++ e.pm.nms
section
variable {s : Sd} (hs : PureS s)
include hs
end
end Pr
namespace Pr
open PySem L2 Vs
/-! ### cells that are changed -/
section
variable {s : Sd} {k : Nat} {ts us : List T} {t : T} {P : T → Sd → Prop} {kvs : List (Key × T)} {x : Str}
theorem Zl4 (h : s[k]? = some (.lst ts)) : isLT s (.cell k) = true := by
  unfold isLT lstT
  simp only [ob, h]
  rfl
theorem Zl9 (h : s[k]? = some (.lst ts)) (hl : ts.length < LIM) : wp (Zbw (Zgg (.cell k) [t] s)) P = P .non (s.set k (.lst (ts ++ [t]))) := by
  have e : Zgg (.cell k) [t] s = some (.non, s.set k (.lst (ts ++ [t]))) := by
    unfold Zgg
    simp only [cellL, h]
    rw [if_pos hl]
  rw [e]; rfl
end
/-! ### the search for rings: what holds of order, path and stack -/
section
variable (ns : List Str) (me : Str → List Str)
noncomputable def Ok (o : List Str) : List Str → List (Str × Bool) → List Str → Prop
  | P, [], _ => P = []
  | P, (x, false) :: S, pend => x ∈ ns ∧ (∀ p, P.head? = some p → x ∈ me p) ∧ Ok o P S (x :: pend)
  | P, (x, true) :: S, pend => ∃ R, P = x :: R ∧ (∀ m ∈ me x, m ∈ o ∨ m ∈ pend) ∧ (∀ p, R.head? = some p → x ∈ me p) ∧ Ok o R S [x]
theorem Ok.mono {o o' : List Str} (h1 : ∀ x ∈ o, x ∈ o') : ∀ {S : List (Str × Bool)} {P pend pend' : List Str}, (∀ x ∈ pend, x ∈ pend' ∨ x ∈ o') → Ok ns me o P S pend → Ok ns me o' P S pend'
  | [], P, pend, pend', _, h => h
  | (x, false) :: S, P, pend, pend', hp, ⟨a, b, c⟩ => ⟨a, b, Ok.mono h1 (fun y hy => by
      rcases List.mem_cons.mp hy with q | q
      · exact .inl (q ▸ List.mem_cons_self)
      · exact (hp y q).imp (List.mem_cons_of_mem _) id) c⟩
  | (x, true) :: S, P, pend, pend', hp, ⟨R, e, a, b, c⟩ => ⟨R, e, fun m hm => by
      rcases a m hm with q | q
      · exact .inl (h1 m q)
      · exact (hp m q).symm, b, Ok.mono h1 (fun y hy => .inl hy) c⟩
theorem Ok.push {o : List Str} {x : Str} {R : List Str} {S : List (Str × Bool)} : ∀ {ms pend : List Str}, (∀ m ∈ ms, m ∈ ns ∧ m ∈ me x) → Ok ns me o (x :: R) S (ms.reverse ++ pend) → Ok ns me o (x :: R) (ms.map (fun m => (m, false)) ++ S) pend
  | [], pend, _, h => h
  | m :: ms, pend, hm, h => by
    refine ⟨(hm m List.mem_cons_self).1, fun p hp => ?_, ?_⟩
    · cases hp
      exact (hm m List.mem_cons_self).2
    · refine Ok.push (fun y hy => hm y (List.mem_cons_of_mem _ hy)) ?_
      rw [List.reverse_cons, List.append_assoc] at h
      exact h
noncomputable def Topo (o : List Str) : Prop := ∀ j x, o[j]? = some x → ∀ m ∈ me x, m ∈ o.take j
theorem Topo.snoc {o : List Str} {x : Str} (h : Topo me o) (hx : ∀ m ∈ me x, m ∈ o) : Topo me (o ++ [x]) := fun j y hj m hm => by
  rcases Nat.lt_or_ge j o.length with q | q
  · rw [List.getElem?_append_left q] at hj
    rw [List.take_append_of_le_length (Nat.le_of_lt q)]
    exact h j y hj m hm
  · have hj2 := (List.getElem?_eq_some_iff.mp hj).1
    rw [List.length_append, List.length_singleton] at hj2
    have ej : j = o.length := by omega
    subst ej
    rw [List.getElem?_concat_length] at hj
    cases hj
    rw [List.take_left]
    exact hx m hm
structure Lo (r : Str → Nat) (z : Str) (o P : List Str) (S : List (Str × Bool)) : Prop where
  ok : Ok ns me o P S []
  nd : (o ++ P).Nodup
  sub : ∀ x ∈ o ++ P, x ∈ ns
  topo : Topo me o
  ch : P.Pairwise fun a b => r a < r b
  st : z ∈ o ∨ z ∈ P ∨ (z, false) ∈ S
end
section
variable {ns : List Str} {me : Str → List Str} {r : Str → Nat} {z : Str} {o P : List Str} {S : List (Str × Bool)} {x : Str}
theorem Lo.skip (h : Lo ns me r z o P ((x, false) :: S)) (hx : x ∈ o) : Lo ns me r z o P S := by
  obtain ⟨a, b, c⟩ := h.ok
  refine ⟨Ok.mono ns me (fun y hy => hy) (fun y hy => .inr (by rw [List.mem_singleton.mp hy]; exact hx)) c, h.nd, h.sub, h.topo, h.ch, ?_⟩
  rcases h.st with q | q | q
  · exact .inl q
  · exact .inr (.inl q)
  · rcases List.mem_cons.mp q with q | q
    · exact .inl (by cases q; exact hx)
    · exact .inr (.inr q)
end
end Pr
namespace Pr
open PySem L2 Vs
theorem strs_pureO (xs : List Str) : Zhj (.lst (xs.map T.str)) = true := Zjo xs _
/-- order and done -/
structure Cb (s σ : Sd) (o : List Str) (kvs : List (Key × T)) : Prop where
  o : σ[s.length]? = some (.lst (o.map T.str))
  d : σ[s.length + 1]? = some (.dic kvs)
  pu : PureS σ
  ba : σ.take s.length = s
theorem take_set_ge {σ : Sd} {n k : Nat} {u : Vs.TO} (h : n ≤ k) : (σ.set k u).take n = σ.take n := by
  rw [List.take_set]
  exact List.set_eq_of_length_le (by rw [List.length_take]; omega)
section
variable {s σ : Sd} {o : List Str} {kvs : List (Key × T)}
theorem self_set {k : Nat} {u v : Vs.TO} (h : σ[k]? = some u) : (σ.set k v)[k]? = some v := List.getElem?_set_self (List.getElem?_eq_some_iff.mp h).1
theorem Cb.setO (h : Cb s σ o kvs) (o' : List Str) : Cb s (σ.set s.length (.lst (o'.map T.str))) o' kvs :=
  ⟨self_set h.o, by rw [List.getElem?_set_ne (by omega)]; exact h.d, h.pu.set (strs_pureO _), by rw [take_set_ge (Nat.le_refl _)]; exact h.ba⟩
end
section
variable {s : Sd} {ns : List Str} {me : Str → List Str} {r : Str → Nat}
theorem Lo.len {z : Str} {o P : List Str} {S : List (Str × Bool)} (h : Lo ns me r z o P S) : o.length + P.length ≤ ns.length := by
  have := Zfu h.nd h.sub
  rwa [List.length_append] at this
end
end Pr
namespace Pr
open PySem L2 Vs
/-! ### values -/
noncomputable def On.v (V : Str → Int) : On → Int
  | .num i => i
  | .nm x => V x
noncomputable def Dn.v (V : Str → Int) : Dn → Int
  | .num i => i
  | .plus x i => V x + i
  | .ext true ops => maxI (ops.map (On.v V))
  | .ext false ops => minI (ops.map (On.v V))
  | .iff a b c d => if b.v V ≤ a.v V then c.v V else d.v V
noncomputable def limI : Option Int → Option Int → Int → Int
  | some l, some h, n => if n < l then l else if h < n then h else n
  | some l, none, n => if n < l then l else n
  | none, some h, n => if h < n then h else n
  | none, none, n => n
noncomputable def Pn.v : Pn → Int → Int
  | .sealed lo hi, n => limI lo hi n
  | .free lo hi _, n => limI lo hi n
  | _, n => n
noncomputable def Se.v (V : Str → Int) (e : Se) : Int := e.pm.v (e.df.v V)
/-- the tree t is a dict that has these values -/
noncomputable def Vd (s : Sd) (t : T) (V : Str → Int) (xs : List Str) : Prop := ∃ kvs : List (Key × T), (t = .dic kvs ∨ ∃ k, t = .cell k ∧ s[k]? = some (.dic kvs)) ∧ ∀ x ∈ xs, valT kvs (.inr x) = some (.int (V x))
section
variable {s : Sd} {t : T} {V : Str → Int} {xs : List Str} {P : T → Sd → Prop}
theorem Vd.app (h : Vd s t V xs) (o : Vs.TO) : Vd (s ++ [o]) t V xs := by
  obtain ⟨kvs, h | ⟨k, h, e⟩, hv⟩ := h
  · exact ⟨kvs, .inl h, hv⟩
  · exact ⟨kvs, .inr ⟨k, h, by rw [List.getElem?_append_left (List.getElem?_eq_some_iff.mp e).1]; exact e⟩, hv⟩
theorem allIT_ints (ns : List Int) : allIT (ns.map T.int) = some ns := by
  induction ns with
  | nil => rfl
  | cons n ns ih =>
    show (allIT (ns.map T.int)).map _ = _
    rw [ih]; rfl
end
section
variable {s : Sd} (hs : PureS s)
include hs
end
/-! ### names and what they may mention -/
end Pr
namespace Pr
open PySem L2 Vs
/-! ### copies -/
noncomputable def flatT : T → Bool
  | .non => true
  | .bl _ => true
  | .int _ => true
  | .str _ => true
  | .lst ts => ts.all (pure? 8)
  | _ => false
section
variable {s : Sd} (hs : PureS s)
include hs
omit hs in
theorem limT_flat (l : Option Int) : flatT (limT l) = true := by cases l <;> rfl
end
theorem ditm_f (j : Nat) (t : T) : ditm false j t = t := rfl
/-! ### the values of a book -/
/-! ### books -/
section
variable {s : Sd}
theorem ws_fld {n : Nat} {f : Str} {e o : DE} {δ : Ed} {PS : DFl → Sd → Prop} : wp (xs_fld n f e o δ s) PS = wp (e δ s) fun t s1 => wp (o δ s1) fun x s2 => wpc (fun s' => PS (.nx δ) s') (ySetF n f t x s2) := by
  unfold xs_fld
  simp only [Zb7]
  congr 1; funext t s1
  congr 1; funext x s2
  cases ySetF n f t x s2 <;> rfl
theorem setF_last {n : Nat} {f : Str} {t : T} {fs : List (Str × T)} (hl : fs.length < 100) : ySetF n f t (.cell s.length) (s ++ [.ins n fs]) = some (s ++ [.ins n (putT' f t fs)]) := by
  unfold ySetF
  dsimp only
  rw [Zfz]
  dsimp only
  rw [if_pos ⟨rfl, hl⟩, set_last]
end
end Pr
namespace Pr
open PySem L2 Vs
/-! ### rows of layers -/
inductive Rw where
  | set (x : Str) (d : Dn) | add (x : Str) (o : On) | shut (x : Str)
noncomputable def Rw.t : Rw → T
  | .set x d => .tup [.str "set", .str x, d.t]
  | .add x o => .tup [.str "add", .str x, o.t]
  | .shut x => .tup [.str "seal", .str x]
noncomputable def Rw.nm : Rw → Str
  | .set x _ => x
  | .add x _ => x
  | .shut x => x
noncomputable def Rw.inn (xs : List Str) : Rw → Prop
  | .set x d => x ∈ xs ∧ d.inn xs ∧ d.ops.length ≤ 5
  | .add x o => x ∈ xs ∧ o.inn xs
  | .shut x => x ∈ xs
theorem Rw.nm_in {xs : List Str} {r : Rw} (h : r.inn xs) : r.nm ∈ xs := by
  cases r with
  | set x d => exact h.1
  | add x o => exact h.1
  | shut x => exact h
theorem Rw.pure (r : Rw) : pure? 4 r.t = true := by
  cases r with
  | set x d =>
    show ([T.str "set", .str x, d.t]).all (pure? 3) = true
    simp only [List.all_cons, List.all_nil, pmono (e := 3) (Dn.pure d), Bool.and_true]
    rfl
  | add x o =>
    show ([T.str "add", .str x, o.t]).all (pure? 3) = true
    simp only [List.all_cons, List.all_nil, On.pure, Bool.and_true]
    rfl
  | shut x => rfl
noncomputable def allow : Pn → Rw → Prop
  | .free _ _ ns, .set _ d => ∀ x ∈ d.nms, x ∈ ns
  | .choice ns, .set _ d => ∃ x ∈ ns, d = .plus x 0
  | .extend ns, .add _ o => o.inn ns
  | .sealed _ _, .shut _ => False
  | _, .shut _ => True
  | _, _ => False
noncomputable def sealP : Pn → Pn
  | .free lo hi _ => .sealed lo hi
  | _ => .sealed none none
noncomputable def addD : Dn → On → Dn
  | .ext mx ops, o => .ext mx (ops ++ [o])
  | d, _ => d
noncomputable def chg (e : Se) : Rw → Se
  | .set _ d => ⟨e.nm, e.pm, d⟩
  | .add _ o => ⟨e.nm, e.pm, addD e.df o⟩
  | .shut _ => ⟨e.nm, sealP e.pm, e.df⟩
theorem chg_nm (e : Se) (r : Rw) : (chg e r).nm = e.nm := by cases r <;> rfl
noncomputable def aft (ss : List Se) (r : Rw) : List Se := ss.map fun e => if e.nm = r.nm then chg e r else e
theorem aft_nms (ss : List Se) (r : Rw) : nms (aft ss r) = nms ss := by
  unfold aft nms
  rw [List.map_map]
  refine List.map_congr_left fun e _ => ?_
  show (if e.nm = r.nm then chg e r else e).nm = e.nm
  split
  · exact chg_nm e r
  · rfl
noncomputable def may (ss : List Se) (r : Rw) : Prop := r.inn (nms ss) ∧ ∀ e ∈ ss, e.nm = r.nm → allow e.pm r
/-- the rows are allowed one after another -/
noncomputable def mays : List Se → List Rw → Prop
  | _, [] => True
  | ss, r :: rs => may ss r ∧ mays (aft ss r) rs
noncomputable def afts (ss : List Se) (rs : List Rw) : List Se := rs.foldl aft ss
end Pr
namespace Pr
open PySem L2 Vs
noncomputable def Rw.w : Rw → Str
  | .set _ _ => "set"
  | .add _ _ => "add"
  | .shut _ => "seal"
section
variable {s : Sd} {P : T → Sd → Prop}
end
section
variable {s : Sd} (hs : PureS s)
include hs
end
/-! ### settings after a layer -/
/-! ### what is asked of books -/
section
variable {s : Sd} {ss : List Se} {o : List Str} {V : Str → Int} {a : DE} {δ : Ed}
end
end Pr
namespace Pr
open PySem L2 Vs
/-! ### a drawn name -/
noncomputable def Ltr (x : Str) (n : Nat) : Prop := x.length = n ∧ ∀ c ∈ x.cps.toList, 97 ≤ c ∧ c ≤ 122
theorem Ltr.nm {x : Str} {n : Nat} (h : Ltr x n) (h1 : 1 ≤ n) (h2 : n ≤ 10) : isNm x = true := by
  unfold isNm
  rw [h.1, decide_eq_true h1, decide_eq_true h2]
  exact List.all_eq_true.mpr fun c hc => decide_eq_true (h.2 c hc)
theorem Ltr.of {x : Str} (h : isNm x = true) : Ltr x x.length := ⟨rfl, fun _ hc => Zjh h hc⟩
theorem app_cps (x y : Str) : (x ++ y).cps.toList = x.cps.toList ++ y.cps.toList := by
  show (x.cps ++ y.cps).toList = _
  rw [Array.toList_append]
theorem app_len (x y : Str) : (x ++ y).length = x.length + y.length := by
  rw [← Zje, ← Zje, ← Zje, app_cps, List.length_append]
theorem Ltr.app {x y : Str} {n m : Nat} (h : Ltr x n) (h' : Ltr y m) : Ltr (x ++ y) (n + m) := ⟨by rw [app_len, h.1, h'.1], fun c hc => by
  rw [app_cps] at hc
  rcases List.mem_append.mp hc with q | q
  · exact h.2 c q
  · exact h'.2 c q⟩
theorem Ltr.one {c : Nat} (h : 97 ≤ c ∧ c ≤ 122) : Ltr ⟨#[c]⟩ 1 := ⟨rfl, fun d hd => by
  have : d = c := by simpa using hd
  rw [this]; exact h⟩
theorem Ltr.cut {x : Str} {n : Nat} (h : Ltr x n) (k : Nat) : Ltr (cutS x none (some (k : Int))) (min k n) := by
  have e : (cutS x none (some (k : Int))).cps.toList = x.cps.toList.take (min k n) := by
    unfold cutS
    rw [HT.sIx_none, HT.sIx_nat, List.drop_zero, Nat.sub_zero, h.1]
  refine ⟨by rw [← Zje, e, List.length_take, Zje, h.1]; omega, fun c hc => ?_⟩
  rw [e] at hc
  exact h.2 c (List.mem_of_mem_take hc)
theorem atI_nat {α : Type} {ts : List α} {n : Nat} {t : α} (e : ts[n]? = some t) : atI ts (n : Int) = some t := by
  have hl : n < ts.length := (List.getElem?_eq_some_iff.mp e).1
  unfold atI ixN
  rw [if_pos (by omega), if_pos (by omega)]
  exact e
theorem ix_str {s : Sd} {z : Str} {r : Int} {P : T → Sd → Prop} (hz : z.length ≤ LIM) (h0 : 0 ≤ r) (h1 : r < z.length) (q : ∀ c ∈ z.cps.toList, P (.str ⟨#[c]⟩) s) : wp (Zbw (yIx (.str z) (.int r) s)) P := by
  obtain ⟨n, rfl⟩ := Int.eq_ofNat_of_zero_le h0
  have hn : n < z.cps.toList.length := by rw [Zje]; omega
  show wp (Zbw (if z.length ≤ LIM then (atI z.cps.toList (n : Int)).map fun k => (.str ⟨#[k]⟩, s) else none)) P
  rw [if_pos hz, atI_nat (List.getElem?_eq_getElem hn)]
  exact q _ (List.getElem_mem hn)
noncomputable def formW : List Str := ["z", "zz", "free", "if", "max", "min", "set", "add", "seal", "plus", "sealed", "choice", "extend", "number"].map Str.ofString
theorem words14 {δ : Ed} {s : Sd} {P : T → Sd → Prop} : wp (x_words (x_c (.str "z zz free if max min set add seal plus sealed choice extend number")) δ s) P = P (.lst (formW.map T.str)) s := by
  unfold x_words
  show wp (if Str.length "z zz free if max min set add seal plus sealed choice extend number" < LIM then .ok (.lst ((Txt.words "z zz free if max min set add seal plus sealed choice extend number").map T.str)) s else .bad) P = _
  rw [if_pos (by decide +kernel), show Txt.words "z zz free if max min set add seal plus sealed choice extend number" = formW from by decide +kernel, Zdd]
theorem formW_nm : ∀ x ∈ formW, isNm x = true := by decide +kernel
theorem abc_ltr : ∀ c ∈ ("abcdefghijklmnopqrstuvwxyz" : Str).cps.toList, 97 ≤ c ∧ c ≤ 122 := by decide +kernel
noncomputable def firsts : List Nat := ("mnopqrstuvwx" : Str).cps.toList
theorem firsts_ltr : ∀ c ∈ firsts, 97 ≤ c ∧ c ≤ 122 := by decide +kernel
theorem firsts_nd : firsts.Nodup := by decide +kernel
theorem Zis : firsts.length = 12 := by decide +kernel
theorem is_strC {z : Str} {δ : Ed} {s : Sd} : Is (xn_str (x_c (.str z)) δ s) (z.cps.toList.map fun c => .str ⟨#[c]⟩, false) s := ⟨rfl, rfl⟩
theorem seq_ob {s : Sd} {t : T} {ts : List T} (h : ob s t = some (.lst ts)) : seqT s t = some ts := by
  unfold seqT; rw [h]
theorem first_free {xs : List Str} {w : Str} (hl : xs.length ≤ 11) : ([w] ++ firsts.map fun c => (⟨#[c]⟩ : Str) ++ cutS w none (some 9)).filter (fun x => !decide (x ∈ xs)) ≠ [] := by
  intro z
  have h : ∀ x ∈ firsts.map (fun c => (⟨#[c]⟩ : Str) ++ cutS w none (some 9)), x ∈ xs := fun x hx => by
    have := List.filter_eq_nil_iff.mp z x (List.mem_append_right _ hx)
    simpa using this
  have nd : (firsts.map fun c => (⟨#[c]⟩ : Str) ++ cutS w none (some 9)).Nodup := by
    refine List.pairwise_map.mpr (List.Pairwise.imp (fun {a b} hne e => hne ?_) firsts_nd)
    have e2 := congrArg (fun x : Str => x.cps.toList) e
    simp only [app_cps] at e2
    have e3 : a :: (cutS w none (some 9)).cps.toList = b :: (cutS w none (some 9)).cps.toList := e2
    exact (List.cons.inj e3).1
  have := Zfu nd h
  rw [List.length_map, Zis] at this
  omega
theorem sl_str {s : Sd} {z : Str} {lo hi : Option Int} {P : T → Sd → Prop} (hz : z.length ≤ LIM) : wp (Zbw (ySl (.str z) lo hi s)) P = P (.str (cutS z lo hi)) s := by
  show wp (Zbw (if z.length ≤ LIM then some (.str (cutS z lo hi), s) else none)) P = _
  rw [if_pos hz]; rfl
theorem name {s : Sd} {k b : Nat} {t : T} {xs : List Str} (h : Cx s k b) (hb : b + 100 ≤ 2 ^ 60) (hn : NmK k s t xs) (hl : xs.length ≤ 11) : wp (Zm9 [.cell k, t] s) fun r s' => ∃ x : Str, r = .str x ∧ isNm x = true ∧ x ∉ xs ∧ Cx s' k (b + 100) ∧ Sm k s s' := by
  unfold Zm9
  refine Zgj ?_
  simp only [Zdd, Zb5, Zcq, wx_c, Zay, Zan, Zag, Zcl, Zb2, Zco, Za7, Zbo, Zat, Zbp, Zdk, Zca, Zbx, Zby, Zc1, Zdz, Zbz, Zcz, Zbr, Zd1, Zcn, Zd6, Zao, Zdu, Zb8, Zdw, Zb6, Zbf, Zdv, Zcx, Za3, Zax, Zaq, Zbm, Zbe, Za6, Zbg, Zdo, Zdt, Zcr, Zcs, Zav, Zd4, Zck, Zb3, Zcb, Za0, Zcc, Zc0, Zcv, Zd8, Zec, Zd9, Zb0, Zdl, Zds, Zdm, Zea, Zd7, Zd0, Zcw, Zbk, Zc2, Zcp, Zc3, Zcy, Zcu, Zd3, Zd5, Zd2, Zeb, Za9, Zci, Zcj, Zct, Zcm, Zbh, Zbl, Zaw, Zau, Zbb, Zbc, Zbd, Zbi, Zbj, Za8, List.map_cons, List.map_nil, List.cons_append, List.nil_append, List.length_cons, List.length_nil, List.replicate_succ, List.replicate_zero, List.set_cons_succ, List.set_cons_zero, Nat.reduceAdd, Nat.reduceSub, Nat.reduceLeDiff, Nat.reduceLT, if_true, if_false, reduceIte, Bool.false_eq_true, Nat.zero_le, true_and, and_true, words14]
  refine ⟨by decide, ?_⟩
  refine Zas (draw (n := 5) h (by omega) (by decide) (by decide)) ?_
  rintro _ s1 ⟨r, rfl, r0, r1, h1, m1⟩
  refine Zgl (.inl rfl) r0 (by simpa using r1) fun t' ht => ?_
  have key : ∃ n : Nat, t' = .int n ∧ 1 ≤ n ∧ n ≤ 10 := by
    simp only [List.mem_cons, List.not_mem_nil, or_false] at ht
    rcases ht with rfl | rfl | rfl | rfl | rfl
    · exact ⟨1, rfl, by decide, by decide⟩
    · exact ⟨1, rfl, by decide, by decide⟩
    · exact ⟨2, rfl, by decide, by decide⟩
    · exact ⟨3, rfl, by decide, by decide⟩
    · exact ⟨10, rfl, by decide, by decide⟩
  obtain ⟨n, rfl, n1, n2⟩ := key
  simp only [Zdd, Zb5, Zcq, wx_c, Zay, Zan, Zag, Zcl, Zb2, Zco, Za7, Zbo, Zat, Zbp, Zdk, Zca, Zbx, Zby, Zc1, Zdz, Zbz, Zcz, Zbr, Zd1, Zcn, Zd6, Zao, Zdu, Zb8, Zdw, Zb6, Zbf, Zdv, Zcx, Za3, Zax, Zaq, Zbm, Zbe, Za6, Zbg, Zdo, Zdt, Zcr, Zcs, Zav, Zd4, Zck, Zb3, Zcb, Za0, Zcc, Zc0, Zcv, Zd8, Zec, Zd9, Zb0, Zdl, Zds, Zdm, Zea, Zd7, Zd0, Zcw, Zbk, Zc2, Zcp, Zc3, Zcy, Zcu, Zd3, Zd5, Zd2, Zeb, Za9, Zci, Zcj, Zct, Zcm, Zbh, Zbl, Zaw, Zau, Zbb, Zbc, Zbd, Zbi, Zbj, Za8, List.map_cons, List.map_nil, List.cons_append, List.nil_append, List.length_cons, List.length_nil, List.replicate_succ, List.replicate_zero, List.set_cons_succ, List.set_cons_zero, Nat.reduceAdd, Nat.reduceSub, Nat.reduceLeDiff, Nat.reduceLT, if_true, if_false, reduceIte, Bool.false_eq_true, Nat.zero_le, true_and, and_true]
  refine ⟨decide_eq_true (by omega), ?_⟩
  rw [Int.toNat_natCast]
  refine Zas (Zim (fun i δ s' => ∃ (w : Str) (a4 : Option T), δ = [some (.cell k), some t, some (.lst (formW.map T.str)), some (.str w), a4, none, none, none] ∧ Ltr w i ∧ Cx s' k (b + 6 + 6 * i) ∧ Sm k s1 s') (ranT n) 0 _ s1 ⟨_, _, rfl, ⟨rfl, fun c hc => by cases hc⟩, h1, Sm.refl _ _⟩ ?_) ?_
  · rintro j t2 δ s2 hj ⟨w, a4, rfl, lw, h2, m2⟩
    rw [Nat.zero_add] at lw h2 ⊢
    have hj10 : j < n := by
      have := (List.getElem?_eq_some_iff.mp hj).1
      rwa [Zge] at this
    refine ⟨_, rfl, ?_⟩
    simp only [Zdd, Zb5, Zcq, wx_c, Zay, Zan, Zag, Zcl, Zb2, Zco, Za7, Zbo, Zat, Zbp, Zdk, Zca, Zbx, Zby, Zc1, Zdz, Zbz, Zcz, Zbr, Zd1, Zcn, Zd6, Zao, Zdu, Zb8, Zdw, Zb6, Zbf, Zdv, Zcx, Za3, Zax, Zaq, Zbm, Zbe, Za6, Zbg, Zdo, Zdt, Zcr, Zcs, Zav, Zd4, Zck, Zb3, Zcb, Za0, Zcc, Zc0, Zcv, Zd8, Zec, Zd9, Zb0, Zdl, Zds, Zdm, Zea, Zd7, Zd0, Zcw, Zbk, Zc2, Zcp, Zc3, Zcy, Zcu, Zd3, Zd5, Zd2, Zeb, Za9, Zci, Zcj, Zct, Zcm, Zbh, Zbl, Zaw, Zau, Zbb, Zbc, Zbd, Zbi, Zbj, Za8, List.map_cons, List.map_nil, List.cons_append, List.nil_append, List.length_cons, List.length_nil, List.replicate_succ, List.replicate_zero, List.set_cons_succ, List.set_cons_zero, Nat.reduceAdd, Nat.reduceSub, Nat.reduceLeDiff, Nat.reduceLT, if_true, if_false, reduceIte, Bool.false_eq_true, Nat.zero_le, true_and, and_true]
    refine Zas (draw (n := 26) h2 (by omega) (by decide) (by decide)) ?_
    rintro _ s3 ⟨r, rfl, r0, r1, h3, m3⟩
    refine ix_str (by decide +kernel) r0 (by rw [show ((Str.length "abcdefghijklmnopqrstuvwxyz" : Nat) : Int) = 26 from by decide +kernel]; exact r1) fun c hc => ?_
    rw [wp_addS]
    have lw2 := lw.app (Ltr.one (abc_ltr c hc))
    refine ⟨by rw [lw.1]; show j + 1 ≤ 100000; omega, ?_⟩
    exact ⟨_, _, rfl, lw2, h3.mono (by omega) (by omega), m2.trans m3⟩
  · rintro _ s2 ⟨δ2, rfl, w, a4, rfl, lw, h2, m2⟩
    rw [Nat.zero_add, Zge] at lw h2
    simp only [Zdd, Zb5, Zcq, wx_c, Zay, Zan, Zag, Zcl, Zb2, Zco, Za7, Zbo, Zat, Zbp, Zdk, Zca, Zbx, Zby, Zc1, Zdz, Zbz, Zcz, Zbr, Zd1, Zcn, Zd6, Zao, Zdu, Zb8, Zdw, Zb6, Zbf, Zdv, Zcx, Za3, Zax, Zaq, Zbm, Zbe, Za6, Zbg, Zdo, Zdt, Zcr, Zcs, Zav, Zd4, Zck, Zb3, Zcb, Za0, Zcc, Zc0, Zcv, Zd8, Zec, Zd9, Zb0, Zdl, Zds, Zdm, Zea, Zd7, Zd0, Zcw, Zbk, Zc2, Zcp, Zc3, Zcy, Zcu, Zd3, Zd5, Zd2, Zeb, Za9, Zci, Zcj, Zct, Zcm, Zbh, Zbl, Zaw, Zau, Zbb, Zbc, Zbd, Zbi, Zbj, Za8, List.map_cons, List.map_nil, List.cons_append, List.nil_append, List.length_cons, List.length_nil, List.replicate_succ, List.replicate_zero, List.set_cons_succ, List.set_cons_zero, Nat.reduceAdd, Nat.reduceSub, Nat.reduceLeDiff, Nat.reduceLT, if_true, if_false, reduceIte, Bool.false_eq_true, Nat.zero_le, true_and, and_true]
    refine Zas (draw (n := 2) h2 (by omega) (by decide) (by decide)) ?_
    rintro _ s3 ⟨r2, rfl, r3, r4, h3, m3⟩
    refine Zgl (.inl rfl) r3 (by rw [show (formW.map T.str).length = 14 from by decide +kernel]; omega) fun f1 hf1 => ?_
    refine Zas (draw (n := 14) h3 (by omega) (by decide) (by decide)) ?_
    rintro _ s4 ⟨r5, rfl, r6, r7, h4, m4⟩
    refine Zgl (.inl rfl) r6 (by rw [show (formW.map T.str).length = 14 from by decide +kernel]; omega) fun f2 hf2 => ?_
    refine ⟨by decide, ?_⟩
    refine Zas (draw (n := 6) h4 (by omega) (by decide) (by decide)) ?_
    rintro _ s5 ⟨r8, rfl, r9, r10, h5, m5⟩
    refine Zgl (.inl rfl) r9 (by simpa using r10) fun t3 ht3 => ?_
    have key : ∃ x : Str, t3 = .str x ∧ isNm x = true := by
      have ff : ∀ f ∈ formW.map T.str, ∃ x : Str, f = .str x ∧ isNm x = true := fun f hf => by
        obtain ⟨x, hx, rfl⟩ := List.mem_map.mp hf
        exact ⟨x, rfl, formW_nm x hx⟩
      simp only [List.mem_cons, List.not_mem_nil, or_false] at ht3
      rcases ht3 with rfl | rfl | rfl | rfl | rfl | rfl
      · exact ⟨w, rfl, lw.nm n1 n2⟩
      · exact ⟨w, rfl, lw.nm n1 n2⟩
      · exact ⟨w, rfl, lw.nm n1 n2⟩
      · exact ⟨w, rfl, lw.nm n1 n2⟩
      · exact ff _ hf1
      · exact ff _ hf2
    obtain ⟨x, rfl, hx⟩ := key
    have lx := Ltr.of hx
    have xl := Zg4 hx
    have m := (((m1.trans m2).trans m3).trans m4).trans m5
    refine ⟨by decide, ?_⟩
    rw [(Zk9 firsts (fun c => .str ⟨#[c]⟩) (fun c => .str ((⟨#[c]⟩ : Str) ++ cutS x none (some 9))) h5.pure is_strC (by rw [Zis]; decide) fun c acc hc _ hp => ⟨_, rfl, rfl, ?_⟩).wp]
    · rw [show (firsts.map fun c => T.str ((⟨#[c]⟩ : Str) ++ cutS x none (some 9))) = (firsts.map fun c => (⟨#[c]⟩ : Str) ++ cutS x none (some 9)).map T.str from by rw [List.map_map]; rfl]
      rw [Zhc]
      refine ⟨by rw [List.length_map, List.length_map, Zis]; show 1 + 12 ≤ 100000; decide, ?_⟩
      rw [show [T.str x] ++ (firsts.map fun c => (⟨#[c]⟩ : Str) ++ cutS x none (some 9)).map T.str = ([x] ++ firsts.map fun c => (⟨#[c]⟩ : Str) ++ cutS x none (some 9)).map T.str from by rw [List.map_append]; rfl]
      have ff := first_free (w := x) hl
      have cm : ∀ y ∈ [x] ++ firsts.map (fun c => (⟨#[c]⟩ : Str) ++ cutS x none (some 9)), isNm y = true := fun y hy => by
        rcases List.mem_append.mp hy with q | q
        · rw [List.mem_singleton.mp q]; exact hx
        · obtain ⟨c, hc, rfl⟩ := List.mem_map.mp q
          have := (Ltr.one (firsts_ltr c hc)).app (lx.cut 9)
          exact this.nm (by omega) (by omega)
      have cl : ([x] ++ firsts.map fun c => (⟨#[c]⟩ : Str) ++ cutS x none (some 9)).length = 13 := by
        rw [List.length_append, List.length_map, Zis]; rfl
      generalize [x] ++ firsts.map (fun c => (⟨#[c]⟩ : Str) ++ cutS x none (some 9)) = cs at ff cm cl
      have hn5 := hn.step m
      rw [(lcf_is cs T.str (fun y => !decide (y ∈ xs)) h5.pure (Zf8 (Zaj rfl)) (by omega) (fun _ => rfl) fun y acc hy _ hp => ⟨_, rfl, ?_, ?_⟩).wp]
      · cases e : cs.filter (fun y => !decide (y ∈ xs)) with
        | nil => exact absurd e ff
        | cons y ys =>
          have hy : y ∈ cs.filter (fun y => !decide (y ∈ xs)) := by rw [e]; exact List.mem_cons_self
          obtain ⟨y1, y2⟩ := List.mem_filter.mp hy
          simp only [List.map_cons, Za8, m.take]
          exact ⟨rfl, h5.pure, y, rfl, cm y y1, by simpa using y2, h5.mono (by omega) hb, m⟩
      · show wp _ _
        simp only [dwip, Zdd, Zb5, Zcq, wx_c, Zay, Zan, Zag, Zcl, Zb2, Zco, Za7, Zbo, Zat, Zbp, Zdk, Zca, Zbx, Zby, Zc1, Zdz, Zbz, Zcz, Zbr, Zd1, Zcn, Zd6, Zao, Zdu, Zb8, Zdw, Zb6, Zbf, Zdv, Zcx, Za3, Zax, Zaq, Zbm, Zbe, Za6, Zbg, Zdo, Zdt, Zcr, Zcs, Zav, Zd4, Zck, Zb3, Zcb, Za0, Zcc, Zc0, Zcv, Zd8, Zec, Zd9, Zb0, Zdl, Zds, Zdm, Zea, Zd7, Zd0, Zcw, Zbk, Zc2, Zcp, Zc3, Zcy, Zcu, Zd3, Zd5, Zd2, Zeb, Za9, Zci, Zcj, Zct, Zcm, Zbh, Zbl, Zaw, Zau, Zbb, Zbc, Zbd, Zbi, Zbj, Za8, List.map_cons, List.map_nil, List.cons_append, List.nil_append, List.length_cons, List.length_nil, List.replicate_succ, List.replicate_zero, List.set_cons_succ, List.set_cons_zero, Nat.reduceAdd, Nat.reduceSub, Nat.reduceLeDiff, Nat.reduceLT, if_true, if_false, reduceIte, Bool.false_eq_true, Nat.zero_le, true_and, and_true]
        rw [in_strs (is := xs) (seq_ob (hn5.app (Sm.refl k _) h5.lt).here)]
        all_goals first | rfl | exact ⟨rfl, rfl⟩ | exact ⟨by decide, rfl⟩ | exact ⟨by decide, rfl, rfl⟩ | decide | trivial
      · show wp _ _
        simp only [dwip, Zdd, Zb5, Zcq, wx_c, Zay, Zan, Zag, Zcl, Zb2, Zco, Za7, Zbo, Zat, Zbp, Zdk, Zca, Zbx, Zby, Zc1, Zdz, Zbz, Zcz, Zbr, Zd1, Zcn, Zd6, Zao, Zdu, Zb8, Zdw, Zb6, Zbf, Zdv, Zcx, Za3, Zax, Zaq, Zbm, Zbe, Za6, Zbg, Zdo, Zdt, Zcr, Zcs, Zav, Zd4, Zck, Zb3, Zcb, Za0, Zcc, Zc0, Zcv, Zd8, Zec, Zd9, Zb0, Zdl, Zds, Zdm, Zea, Zd7, Zd0, Zcw, Zbk, Zc2, Zcp, Zc3, Zcy, Zcu, Zd3, Zd5, Zd2, Zeb, Za9, Zci, Zcj, Zct, Zcm, Zbh, Zbl, Zaw, Zau, Zbb, Zbc, Zbd, Zbi, Zbj, Za8, List.map_cons, List.map_nil, List.cons_append, List.nil_append, List.length_cons, List.length_nil, List.replicate_succ, List.replicate_zero, List.set_cons_succ, List.set_cons_zero, Nat.reduceAdd, Nat.reduceSub, Nat.reduceLeDiff, Nat.reduceLT, if_true, if_false, reduceIte, Bool.false_eq_true, Nat.zero_le, true_and, and_true]
        all_goals first | rfl | exact ⟨rfl, rfl⟩ | exact ⟨by decide, rfl⟩ | exact ⟨by decide, rfl, rfl⟩ | decide | trivial
    · show wp _ _
      simp only [dwip, Zdd, Zb5, Zcq, wx_c, Zay, Zan, Zag, Zcl, Zb2, Zco, Za7, Zbo, Zat, Zbp, Zdk, Zca, Zbx, Zby, Zc1, Zdz, Zbz, Zcz, Zbr, Zd1, Zcn, Zd6, Zao, Zdu, Zb8, Zdw, Zb6, Zbf, Zdv, Zcx, Za3, Zax, Zaq, Zbm, Zbe, Za6, Zbg, Zdo, Zdt, Zcr, Zcs, Zav, Zd4, Zck, Zb3, Zcb, Za0, Zcc, Zc0, Zcv, Zd8, Zec, Zd9, Zb0, Zdl, Zds, Zdm, Zea, Zd7, Zd0, Zcw, Zbk, Zc2, Zcp, Zc3, Zcy, Zcu, Zd3, Zd5, Zd2, Zeb, Za9, Zci, Zcj, Zct, Zcm, Zbh, Zbl, Zaw, Zau, Zbb, Zbc, Zbd, Zbi, Zbj, Za8, List.map_cons, List.map_nil, List.cons_append, List.nil_append, List.length_cons, List.length_nil, List.replicate_succ, List.replicate_zero, List.set_cons_succ, List.set_cons_zero, Nat.reduceAdd, Nat.reduceSub, Nat.reduceLeDiff, Nat.reduceLT, if_true, if_false, reduceIte, Bool.false_eq_true, Nat.zero_le, true_and, and_true]
      rw [sl_str (by show x.length ≤ 100000; omega), wp_addS]
      have lc := (lx.cut 9).1
      refine ⟨?_, rfl, rfl⟩
      have lc : (cutS x none (some 9)).length = min 9 x.length := lc
      rw [lc]
      show 1 + _ ≤ 100000
      omega
end Pr
namespace Pr
open PySem L2 Vs
section
variable {s : Sd} (hs : PureS s)
include hs
end
/-! ### a drawn book -/
/-- settings, drawn in this order -/
structure Drawn (xs : List Str) (ss : List Se) : Prop where
  nd : xs.Nodup
  nm : Zh1 xs
  nd2 : (nms ss).Nodup
  len : ss.length = xs.length
  at_ : ∀ e ∈ ss, ∃ j, xs[j]? = some e.nm ∧ e.ok (xs.take j)
  ops : ∀ e ∈ ss, e.df.ops.length ≤ 4
theorem Drawn.mem {xs : List Str} {ss : List Se} (h : Drawn xs ss) : ∀ x, x ∈ xs ↔ x ∈ nms ss := by
  have sub : ∀ x ∈ nms ss, x ∈ xs := fun x hx => by
    obtain ⟨e, he, rfl⟩ := List.mem_map.mp hx
    obtain ⟨j, hj, _⟩ := h.at_ e he
    exact List.mem_of_getElem? hj
  refine fun x => ⟨fun hx => ?_, sub x⟩
  apply Classical.byContradiction
  intro n
  have : (x :: nms ss).length ≤ xs.length := Zfu (List.nodup_cons.mpr ⟨n, h.nd2⟩) fun y hy => by
    rcases List.mem_cons.mp hy with q | q
    · rw [q]; exact hx
    · exact sub y q
  rw [List.length_cons, List.length_map, h.len] at this
  omega
theorem Drawn.snoc {xs : List Str} {ss : List Se} {e : Se} (h : Drawn xs ss) (hx : isNm e.nm = true) (hn : e.nm ∉ xs) (ok : e.ok xs) (ho : e.df.ops.length ≤ 4) (j : Nat) : Drawn (xs ++ [e.nm]) (ss.take j ++ [e] ++ ss.drop j) := by
  have m := h.mem
  have mm : ∀ u, u ∈ ss.take j ++ [e] ++ ss.drop j ↔ u ∈ ss ∨ u = e := fun u => by
    conv => rhs; rw [← List.take_append_drop j ss]
    simp only [List.mem_append, List.mem_singleton]
    constructor
    · rintro ((h | h) | h)
      · exact .inl (.inl h)
      · exact .inr h
      · exact .inl (.inr h)
    · rintro ((h | h) | h)
      · exact .inl (.inl h)
      · exact .inr h
      · exact .inl (.inr h)
  refine ⟨List.nodup_append.mpr ⟨h.nd, by simp, fun a ha b hb => by rw [List.mem_singleton.mp hb]; exact fun z => hn (z ▸ ha)⟩, fun x hx2 => ?_, ?_, ?_, fun u hu => ?_, fun u hu => ?_⟩
  · rcases List.mem_append.mp hx2 with q | q
    · exact h.nm x q
    · rw [List.mem_singleton.mp q]; exact hx
  · have p : List.Perm (nms (ss.take j ++ [e] ++ ss.drop j)) (e.nm :: nms ss) := by
      unfold nms
      rw [List.map_append, List.map_append, List.append_assoc]
      refine List.perm_middle.trans (List.Perm.cons _ ?_)
      have e2 : ss.map Se.nm = (ss.take j).map Se.nm ++ (ss.drop j).map Se.nm := by rw [← List.map_append, List.take_append_drop]
      rw [e2]
      exact List.Perm.refl _
    exact (p.nodup_iff).mpr (List.nodup_cons.mpr ⟨fun z => hn ((m _).mpr z), h.nd2⟩)
  · rw [List.length_append, List.length_append, List.length_append, List.length_singleton, List.length_singleton, ← h.len, List.length_take, List.length_drop]
    omega
  · rcases (mm u).mp hu with q | q
    · obtain ⟨i, hi, ok⟩ := h.at_ u q
      have hl := (List.getElem?_eq_some_iff.mp hi).1
      exact ⟨i, by rw [List.getElem?_append_left hl]; exact hi, by rw [List.take_append_of_le_length (Nat.le_of_lt hl)]; exact ok⟩
    · subst q
      exact ⟨xs.length, List.getElem?_concat_length, by rw [List.take_left]; exact ok⟩
  · rcases (mm u).mp hu with q | q
    · exact h.ops u q
    · rw [q]; exact ho
end Pr
namespace Pr
open PySem L2 Vs
/-- a def whose result is frozen -/
theorem wp_dfnG {k : Nat} {b : DSt} {ts : List T} {s : Sd} {P : T → Sd → Prop}
    (h : wp (b (ts.map some ++ List.replicate (k - ts.length) none) s) fun f s1 => ∃ t r, f = .rt t ∧ fr s.length s1 FU t = some r ∧ PureS (s1.take s.length) ∧ P r (s1.take s.length)) : wp (Ze8 k b ts s) P := by
  unfold Ze8
  obtain ⟨f, s1, e, t, r, rfl, e2, e3, e4⟩ := Zlm h
  rw [e, Zce]
  unfold pop
  dsimp only
  rw [e2, Zfk _ _ e3]
  exact e4
/-- one more cell, the purse changed -/
structure Sn (k : Nat) (s s' : Sd) (u : Vs.TO) : Prop where
  len : s'.length = s.length + 1
  lo : ∀ j, j ≠ k → j < s.length → s'[j]? = s[j]?
  hi : s'[s.length]? = some u
theorem Sn.step {k : Nat} {s s' s2 : Sd} {u : Vs.TO} (h : Sn k s s' u) (m : Sm k s' s2) (hk : k < s.length) : Sn k s s2 u :=
  ⟨m.1.trans h.len, fun j h1 h2 => (m.2 j h1).trans (h.lo j h1 h2), (m.2 _ (by omega)).trans h.hi⟩
theorem Sn.put {k : Nat} {s s' : Sd} {u : Vs.TO} (h : Sn k s s' u) (v : Vs.TO) : Sn k s (s'.set s.length v) v :=
  ⟨by rw [List.length_set]; exact h.len, fun j h1 h2 => by rw [List.getElem?_set_ne (by omega)]; exact h.lo j h1 h2, self_set h.hi⟩
theorem Sn.take {k : Nat} {s s' : Sd} {u : Vs.TO} (h : Sn k s s' u) : Sm k s (s'.take s.length) := by
  refine ⟨by rw [List.length_take, h.len]; omega, fun j hj => ?_⟩
  rw [List.getElem?_take]
  split
  · rename_i q; exact h.lo j hj q
  · rename_i q; rw [List.getElem?_eq_none (by omega)]
end Pr
namespace Pr
open PySem L2 Vs
/-! ### drawn rows -/
/-! ### a drawn layer -/
end Pr
namespace Pr
open PySem L2 Vs
/-! ### rows that give a setting the value it has -/
end Pr
namespace Pr
open PySem L2 Vs
/-! ### books asked by methods and signs -/
section
variable {s : Sd} {ss : List Se} {o : List Str} {V : Str → Int} {a b : DE} {δ : Ed}
end
end Pr
namespace Pr
open PySem L2 Vs
/-! ### the purse; layers of any length -/
theorem wp_dfn1 {k : Nat} {b : DSt} {ts : List T} {s : Sd} {P : T → Sd → Prop} {u : Vs.TO} (hs : PureS s) (hu : Zhj u = true)
    (h : wp (b (ts.map some ++ List.replicate (k - ts.length) none) s) fun f s1 => f = .rt (.cell s.length) ∧ s1 = s ++ [u]) (q : P (.cell s.length) (s ++ [u])) : wp (dfnOf1 k b ts s) P := by
  unfold dfnOf1
  obtain ⟨f, s1, e, rfl, rfl⟩ := Zlm h
  rw [e, Zce]
  unfold keep1
  dsimp only
  rw [if_pos (by simp)]
  unfold pop
  dsimp only
  have e1 : fr (s.length + 1) (s ++ [u]) FU (.cell s.length) = some (.cell s.length) := if_pos (Nat.lt_succ_self _)
  rw [e1, List.take_of_length_le (by simp), Zfk _ _ (hs.app hu)]
  exact q
theorem sl_scr {s : Sd} {ns : List Int} {lo hi : Option Int} {P : T → Sd → Prop} (h : s[0]? = some (.scr ns)) : wp (Zbw (ySl (.cell 0) lo hi s)) P = P (.lst (cutT (ns.map T.int) lo hi)) s := by
  have e : ySl (.cell 0) lo hi s = some (.lst (cutT (ns.map T.int) lo hi), s) := by
    unfold ySl
    simp only [ob, h]
  rw [e]; rfl
theorem cut_ints (ns : List Int) (lo hi : Option Int) : ∃ ms : List Int, cutT (ns.map T.int) lo hi = ms.map T.int ∧ (hi = some 24 → lo = none → ms.length ≤ 24) := by
  refine ⟨(ns.drop (HT.sIx (ns.map T.int).length 0 lo)).take (HT.sIx (ns.map T.int).length (ns.map T.int).length hi - HT.sIx (ns.map T.int).length 0 lo), ?_, ?_⟩
  · unfold cutT
    rw [List.map_take, List.map_drop]
  · rintro rfl rfl
    rw [List.length_take]
    have : HT.sIx (ns.map T.int).length (ns.map T.int).length (some ((24 : Nat) : Int)) = min 24 (ns.map T.int).length := HT.sIx_nat ..
    have e2 : HT.sIx (ns.map T.int).length (ns.map T.int).length (some (24 : Int)) = min 24 (ns.map T.int).length := this
    rw [e2]
    omega
theorem sum_ints {s : Sd} {ms : List Int} {P : T → Sd → Prop} : wp (Zbw (ySum [.lst (ms.map T.int)] s)) P = P (.int ms.sum) s := by
  show wp (Zbw ((allIT (ms.map T.int)).map fun bs => (.int bs.sum, s))) P = _
  rw [allIT_ints]; rfl
theorem max_2 {s : Sd} {i j : Int} {P : T → Sd → Prop} : wp (Zbw (yMax [.int i, .int j] s)) P = P (.int (if j > i then j else i)) s := (Eq.refl _).trans rfl
/-- the script, then purses -/
structure LS (ns : List Int) (i : Nat) (s : Sd) : Prop where
  len : s.length = 1 + i
  scr : s[0]? = some (.scr ns)
  pu : PureS s
end Pr
namespace Pr
open PySem L2 Vs
/-! ### trees that are equal to themselves -/
noncomputable def dat : Nat → T → Bool
  | _, .non => true
  | _, .int _ => true
  | _, .str x => PyData.strOk x
  | d + 1, .lst ts => ts.all (dat d)
  | d + 1, .tup ts => ts.all (dat d)
  | _, _ => false
noncomputable def DatD (d : Nat) (t : T) (D : PyData) : Prop := (∀ (s : Sd) (n : Nat), d ≤ n → Zhu s n t = some D) ∧ D.canLay0 = true ∧ D.depth ≤ d ∧ PyData.eqv D D = true
theorem Zmb {d : Nat} (ih : ∀ t, dat d t = true → ∃ D, DatD d t D) : ∀ ts : List T, ts.all (dat d) = true → ∃ Ds, (∀ (s : Sd) (n : Nat), d ≤ n → Zg0 (Zhu s n) ts = some Ds) ∧ PyData.canLayAll0 Ds = true ∧ PyData.depthAll Ds ≤ d ∧ PyData.eqvAll Ds Ds = true
  | [], _ => ⟨[], fun _ _ _ => rfl, rfl, Nat.zero_le _, by simp [PyData.eqvAll]⟩
  | t :: ts, h => by
    rw [List.all_cons, Bool.and_eq_true] at h
    obtain ⟨D, h1, h2, h3, h4⟩ := ih t h.1
    obtain ⟨Ds, k1, k2, k3, k4⟩ := Zmb ih ts h.2
    refine ⟨D :: Ds, fun s n hn => ?_, ?_, ?_, ?_⟩
    · show ((Zhu s n t).bind fun u => (Zg0 (Zhu s n) ts).map fun us => u :: us) = _
      rw [h1 s n hn, k1 s n hn]
      rfl
    · show (PyData.canLay0 D && PyData.canLayAll0 Ds) = true
      rw [h2, k2]; rfl
    · show max D.depth (PyData.depthAll Ds) ≤ d
      omega
    · simp only [PyData.eqvAll, h4, k4]; rfl
theorem Zmg : ∀ (d : Nat) (t : T), dat d t = true → ∃ D, DatD d t D
  | d, .non, _ => ⟨.none, fun s n _ => by cases n <;> rfl, by simp only [PyData.canLay0], by simp only [PyData.depth]; omega, by simp [PyData.eqv]⟩
  | d, .int i, _ => ⟨.int i, fun s n _ => by cases n <;> rfl, by simp only [PyData.canLay0], by simp only [PyData.depth]; omega, by simp [PyData.eqv]⟩
  | d, .str x, h => ⟨.str x, fun s n _ => by cases n <;> rfl, by simp only [PyData.canLay0]; cases d <;> exact h, by simp only [PyData.depth]; omega, by simp [PyData.eqv]⟩
  | d + 1, .lst ts, h => by
    obtain ⟨Ds, k1, k2, k3, k4⟩ := Zmb (fun t => Zmg d t) ts h
    refine ⟨.list Ds, fun s n hn => ?_, ?_, ?_, ?_⟩
    · cases n with
      | zero => omega
      | succ n =>
        show (Zg0 (Zhu s n) ts).map PyData.list = _
        rw [k1 s n (by omega)]; rfl
    · simp only [PyData.canLay0, k2]
    · simp only [PyData.depth]; omega
    · simp only [PyData.eqv, k4]
  | d + 1, .tup ts, h => by
    obtain ⟨Ds, k1, k2, k3, k4⟩ := Zmb (fun t => Zmg d t) ts h
    refine ⟨.tuple Ds, fun s n hn => ?_, ?_, ?_, ?_⟩
    · cases n with
      | zero => omega
      | succ n =>
        show (Zg0 (Zhu s n) ts).map PyData.tuple = _
        rw [k1 s n (by omega)]; rfl
    · simp only [PyData.canLay0, k2]
    · simp only [PyData.depth]; omega
    · simp only [PyData.eqv, k4]
  | d, .bl _, h => by cases d <;> cases h
  | d, .dic _, h => by cases d <;> cases h
  | d, .ins _ _, h => by cases d <;> cases h
  | d, .cell _, h => by cases d <;> cases h
  | d, .exn _ _, h => by cases d <;> cases h
  | 0, .lst _, h => nomatch h
  | 0, .tup _, h => nomatch h
theorem dat_dv {t : T} (h : dat 50 t = true) : ∃ D, PyData.eqv D D = true ∧ ∀ s : Sd, dvT s t = some D := by
  obtain ⟨D, h1, h2, h3, h4⟩ := Zmg 50 t h
  refine ⟨D, h4, fun s => ?_⟩
  unfold dvT
  rw [h1 s 60 (by decide), Option.bind_some, if_pos]
  unfold SeqAt.shaped
  rw [h2, Bool.true_and]
  exact decide_eq_true (by omega)
section
variable {s : Sd} {P : T → Sd → Prop} {t : T}
theorem ne_self (h : dat 50 t = true) (hf : fl t = none) : wp (Zbw (yNe t t s)) P = P (.bl false) s := by
  obtain ⟨D, h1, h2⟩ := dat_dv h
  have e : yNe t t s = some (.bl false, s) := by
    unfold yNe
    simp only [hf, Option.bind_none, h2 s, Option.bind_some, h1]
    rfl
  rw [e]; rfl
end
/-! ### settings and rows among them -/
theorem On.dat {o : On} {xs : List Str} (a : Zh1 xs) (h : o.inn xs) (d : Nat) : Pr.dat d o.t = true := by
  cases o with
  | num i => cases d <;> rfl
  | nm x => cases d <;> exact isNm_ok (a x h)
theorem limT_dat (l : Option Int) (d : Nat) : dat d (limT l) = true := by cases l <;> cases d <;> rfl
theorem Znk {x : Str} (h : isNm x = true) (d : Nat) : dat d (.str x) = true := by cases d <;> exact isNm_ok h
theorem int_dat (i : Int) (d : Nat) : dat d (.int i) = true := by cases d <;> rfl
theorem strs_dat {xs : List Str} (a : Zh1 xs) (d : Nat) : dat (d + 1) (.lst (xs.map T.str)) = true := List.all_eq_true.mpr fun t ht => by
  obtain ⟨x, hx, rfl⟩ := List.mem_map.mp ht
  exact Znk (a x hx) d
theorem Dn.dat {e : Dn} {xs : List Str} (a : Zh1 xs) (h : e.inn xs) : Pr.dat 2 e.t = true := by
  cases e with
  | num i =>
    show ([T.str "number", .int i]).all (Pr.dat 1) = true
    simp only [List.all_cons, List.all_nil, Bool.and_true, int_dat]
    decide +kernel
  | plus x i =>
    show ([T.str "plus", .str x, .int i]).all (Pr.dat 1) = true
    simp only [List.all_cons, List.all_nil, Bool.and_true, Znk (a x h) 1, int_dat]
    decide +kernel
  | ext mx ops =>
    show ([T.str (mw mx), .lst (ops.map On.t)]).all (Pr.dat 1) = true
    have e1 : Pr.dat 1 (.lst (ops.map On.t)) = true := List.all_eq_true.mpr fun t ht => by
      obtain ⟨o, ho, rfl⟩ := List.mem_map.mp ht
      exact On.dat a (h.2.2 o ho) 0
    simp only [List.all_cons, List.all_nil, Bool.and_true, e1]
    cases mx <;> decide +kernel
  | iff l r x y =>
    show ([T.str "if", l.t, r.t, x.t, y.t]).all (Pr.dat 1) = true
    simp only [List.all_cons, List.all_nil, Bool.and_true, On.dat a h.1 1, On.dat a h.2.1 1, On.dat a h.2.2.1 1, On.dat a h.2.2.2 1]
    decide +kernel
theorem Pn.dat {e : Pn} {xs : List Str} (a : Zh1 xs) (h : e.inn xs) : Pr.dat 2 e.t = true := by
  have sub : ∀ {ns : List Str}, (∀ x ∈ ns, x ∈ xs) → Pr.dat 1 (.lst (ns.map T.str)) = true := fun m => strs_dat (fun x hx => a x (m x hx)) 0
  cases e with
  | «sealed» lo hi =>
    show ([T.str "sealed", limT lo, limT hi]).all (Pr.dat 1) = true
    simp only [List.all_cons, List.all_nil, Bool.and_true, limT_dat]
    decide +kernel
  | free lo hi ns =>
    show ([T.str "free", limT lo, limT hi, .lst (ns.map T.str)]).all (Pr.dat 1) = true
    simp only [List.all_cons, List.all_nil, Bool.and_true, limT_dat, sub h.2.2]
    decide +kernel
  | choice ns =>
    show ([T.str "choice", .lst (ns.map T.str)]).all (Pr.dat 1) = true
    simp only [List.all_cons, List.all_nil, Bool.and_true, sub h.2.2]
    decide +kernel
  | extend ns =>
    show ([T.str "extend", .lst (ns.map T.str)]).all (Pr.dat 1) = true
    simp only [List.all_cons, List.all_nil, Bool.and_true, sub h.2]
    decide +kernel
theorem Good.nms {ss : List Se} (g : Good ss) : Zh1 (nms ss) := fun x hx => by
  obtain ⟨e, he, rfl⟩ := List.mem_map.mp hx
  exact (g.ok e he).1
theorem Se.dat {ss : List Se} (g : Good ss) {e : Se} (he : e ∈ ss) : Pr.dat 3 e.t = true := by
  show ([T.str e.nm, e.pm.t, e.df.t]).all (Pr.dat 2) = true
  simp only [List.all_cons, List.all_nil, Bool.and_true, Znk (g.ok e he).1 2, Pn.dat g.nms (g.ok e he).2.pm, Dn.dat g.nms (g.ok e he).2.df]
theorem Good.dat {ss : List Se} (g : Good ss) : Pr.dat 4 (.lst (ss.map Se.t)) = true := List.all_eq_true.mpr fun t ht => by
  obtain ⟨e, he, rfl⟩ := List.mem_map.mp ht
  exact Se.dat g he
theorem Rw.dat {r : Rw} {xs : List Str} (a : Zh1 xs) (h : r.inn xs) : Pr.dat 3 r.t = true := by
  have hn := Znk (a _ (Rw.nm_in h)) 2
  cases r with
  | set x d =>
    have hn : Pr.dat 2 (.str x) = true := hn
    show ([T.str "set", .str x, d.t]).all (Pr.dat 2) = true
    simp only [List.all_cons, List.all_nil, Bool.and_true, hn, Dn.dat a h.2.1]
    decide +kernel
  | add x o =>
    have hn : Pr.dat 2 (.str x) = true := hn
    show ([T.str "add", .str x, o.t]).all (Pr.dat 2) = true
    simp only [List.all_cons, List.all_nil, Bool.and_true, hn, On.dat a h.2 2]
    decide +kernel
  | shut x =>
    have hn : Pr.dat 2 (.str x) = true := hn
    show ([T.str "seal", .str x]).all (Pr.dat 2) = true
    simp only [List.all_cons, List.all_nil, Bool.and_true, hn]
    decide +kernel
end Pr
namespace Pr
open PySem L2 Vs
/-! ### trees whose text is short -/
/-- data as dat, its numbers below 10^40, its texts of 100 signs at most -/
noncomputable def bdat : Nat → T → Bool
  | _, .non => true
  | _, .int i => decide (i.natAbs < 10 ^ 40)
  | _, .str x => PyData.strOk x && decide (x.cps.size ≤ 100)
  | d + 1, .lst ts => ts.all (bdat d)
  | d + 1, .tup ts => ts.all (bdat d)
  | _, _ => false
/-- how many things a tree holds -/
noncomputable def tsz : Nat → T → Nat
  | d + 1, .lst ts => 1 + (ts.map (tsz d)).sum
  | d + 1, .tup ts => 1 + (ts.map (tsz d)).sum
  | _, _ => 1
theorem shown_int40 {i : Int} (h : i.natAbs < 10 ^ 40) : (PyData.shown (.int i)).length ≤ 41 := by
  have := int_text_length_le10 (a := i) (k := 40) (by decide) h
  show (Str.ofString (toString i)).length ≤ 41
  rw [ofString_length]
  exact this
theorem log40 {i : Int} (h : i.natAbs < 10 ^ 40) : i.natAbs.log2 < 140 := by
  by_cases z : i.natAbs = 0
  · rw [z]; decide
  · rw [Nat.log2_lt z]
    exact Nat.lt_trans h (by decide)
end Pr
namespace Pr
open PySem L2 Vs
/-! ### rows, setting by setting -/
noncomputable def fil (rs : List Rw) (x : Str) : List Rw := rs.filter fun r => decide (r.nm = x)
theorem Zme (r : Rw) (rs : List Rw) (x : Str) : fil (r :: rs) x = if r.nm = x then r :: fil rs x else fil rs x := by
  unfold fil
  rw [List.filter_cons]
  by_cases h : r.nm = x
  · rw [if_pos h, if_pos (decide_eq_true h)]
  · rw [if_neg h, if_neg (by rw [decide_eq_false h]; exact Bool.false_ne_true)]
noncomputable def chgs (e : Se) (rs : List Rw) : Se := rs.foldl chg e
theorem afts_eq (rs : List Rw) : ∀ ss : List Se, afts ss rs = ss.map fun e => chgs e (fil rs e.nm) := by
  induction rs with
  | nil => exact fun ss => (List.map_id ss).symm
  | cons r rs ih =>
    intro ss
    show afts (aft ss r) rs = _
    rw [ih]
    unfold aft
    rw [List.map_map]
    refine List.map_congr_left fun e _ => ?_
    show chgs (if e.nm = r.nm then chg e r else e) (fil rs (if e.nm = r.nm then chg e r else e).nm) = _
    rw [Zme]
    by_cases h : e.nm = r.nm
    · rw [if_pos h, if_pos h.symm, chg_nm]; rfl
    · rw [if_neg h, if_neg (Ne.symm h)]
/-- the rows of one setting, one after another -/
noncomputable def als : Se → List Rw → Prop
  | _, [] => True
  | e, r :: rs => allow e.pm r ∧ als (chg e r) rs
theorem mays_iff (rs : List Rw) : ∀ ss : List Se, mays ss rs ↔ (∀ r ∈ rs, r.inn (nms ss)) ∧ ∀ e ∈ ss, als e (fil rs e.nm) := by
  induction rs with
  | nil => exact fun ss => ⟨fun _ => ⟨fun _ h => (nomatch h), fun _ _ => trivial⟩, fun _ => trivial⟩
  | cons r rs ih =>
    intro ss
    show may ss r ∧ mays (aft ss r) rs ↔ _
    rw [ih, aft_nms]
    constructor
    · rintro ⟨⟨h1, h2⟩, h3, h4⟩
      refine ⟨fun u hu => ?_, fun e he => ?_⟩
      · rcases List.mem_cons.mp hu with rfl | hu
        · exact h1
        · exact h3 u hu
      · have k := h4 (if e.nm = r.nm then chg e r else e) (List.mem_map.mpr ⟨e, he, rfl⟩)
        rw [Zme]
        by_cases h : e.nm = r.nm
        · rw [if_pos h, chg_nm] at k
          rw [if_pos h.symm]
          exact ⟨h2 e he h, k⟩
        · rw [if_neg h] at k
          rw [if_neg (Ne.symm h)]
          exact k
    · rintro ⟨h1, h2⟩
      refine ⟨⟨h1 r List.mem_cons_self, fun e he hn => ?_⟩, fun u hu => h1 u (List.mem_cons_of_mem _ hu), fun e' he' => ?_⟩
      · have k := h2 e he
        rw [Zme, if_pos hn.symm] at k
        exact k.1
      · obtain ⟨e, he, rfl⟩ := List.mem_map.mp he'
        have k := h2 e he
        rw [Zme] at k
        by_cases h : e.nm = r.nm
        · rw [if_pos h.symm] at k
          rw [if_pos h, chg_nm]
          exact k.2
        · rw [if_neg (Ne.symm h)] at k
          rw [if_neg h]
          exact k
/-- the same rows, those of one setting in the same order -/
noncomputable def Shuf (rs us : List Rw) : Prop := ∀ x, fil us x = fil rs x
theorem Shuf.mem {rs us : List Rw} (h : Shuf rs us) : ∀ r, r ∈ us ↔ r ∈ rs := fun r => by
  have e := h r.nm
  have key : ∀ vs : List Rw, r ∈ vs ↔ r ∈ fil vs r.nm := fun vs => ⟨fun q => List.mem_filter.mpr ⟨q, decide_eq_true rfl⟩, fun q => (List.mem_filter.mp q).1⟩
  rw [key us, key rs, e]
theorem Shuf.afts {rs us : List Rw} (h : Shuf rs us) (ss : List Se) : Pr.afts ss us = Pr.afts ss rs := by
  rw [afts_eq, afts_eq]
  exact List.map_congr_left fun e _ => by rw [h]
theorem Shuf.mays {rs us : List Rw} (h : Shuf rs us) {ss : List Se} (m : Pr.mays ss rs) : Pr.mays ss us := by
  rw [mays_iff] at m ⊢
  exact ⟨fun r hr => m.1 r ((h.mem r).mp hr), fun e he => by rw [h]; exact m.2 e he⟩
/-! ### rows that are no seal -/
noncomputable def Rw.op : Rw → Bool
  | .shut _ => false
  | _ => true
noncomputable def own (rs : List Rw) (x : Str) : List Rw := (fil rs x).filter Rw.op
theorem Shuf.own {rs us : List Rw} (h : Shuf rs us) (x : Str) : Pr.own us x = Pr.own rs x := by
  unfold Pr.own
  rw [h]
/-! ### sets of texts -/
end Pr
namespace Pr
open PySem L2 Vs
/-! ### what books tell of themselves and of layers -/
section
variable {s : Sd} {ss : List Se} {o o' : List Str} {V V' : Str → Int} {a b : DE} {δ : Ed}
end
end Pr
namespace Pr
open PySem L2 Vs
/-! ### touched -/
section
variable {α : Type} {g : DG} {t : DTm} {e : DE} {δ0 : Ed} {s : Sd} {tr : α → T}
end
end Pr
namespace Pr
open PySem L2 Vs
/-! ### plain -/
noncomputable def Rw.opd : Rw → On
  | .add _ o => o
  | _ => .num 0
end Pr
namespace Pr
open PySem L2 Vs
/-! ### another order of the rows -/
end Pr
namespace Pr
open PySem L2 Vs
/-! ### laws over the first numbers of the script -/
theorem LS.step {ns : List Int} {j : Nat} {s s' : Sd} {k : Nat} (h : LS ns j s) (m : Sm k s s') (hk : k ≠ 0) (p : PureS s') : LS ns j s' := ⟨m.1.trans h.len, (m.2 0 (Ne.symm hk)).trans h.scr, p⟩
end Pr
namespace Pr
open PySem L2 Vs
/-! The trees' readings of the defs that let errors out. -/
end Pr
namespace Pr
open PySem L2 Vs
/-! ### what raises -/
noncomputable def rz {α : Type} (r : Rd α) (E : Nat → T → Sd → Prop) : Prop := ∃ k t s, r = .exc k t s ∧ E k t s
section
variable {α β : Type} {E : Nat → T → Sd → Prop} {δ : Ed} {s : Sd}
theorem rz_bind {r : Rd α} {f : α → Sd → Rd β} (h : rz r E) : rz (r.bind f) E := by
  obtain ⟨k, t, s, rfl, h⟩ := h
  exact ⟨k, t, s, rfl, h⟩
theorem rz_then {r : Rd α} {f : α → Sd → Rd β} (h : wp r fun a s => rz (f a s) E) : rz (r.bind f) E := by
  obtain ⟨a, s, rfl, h⟩ := Zlm h
  exact h
theorem rz_seq1 {a b : DSt} (h : rz (a δ s) E) : rz (Zar a b δ s) E := rz_bind h
theorem rz_if {t : DTm} {a b : DSt} (h : wp (t δ s) fun k s1 => rz (if k = true then a δ s1 else b δ s1) E) : rz (Zf6 t a b δ s) E := rz_then h
theorem rz_raise {c : Nat} {a : DA} (h : wp (a δ s) fun ts s1 => ∃ t, ts = [t] ∧ E c t s1) : rz (xs_raise c a δ s) E := by
  refine rz_then (Zas h ?_)
  rintro _ s1 ⟨t, rfl, h⟩
  exact ⟨c, t, s1, rfl, h⟩
theorem rz_dfnX {n : Nat} {b : DSt} {ts : List T} (hs : PureS s) (h : rz (b (ts.map some ++ List.replicate (n - ts.length) none) s) fun k t s1 => pure? PD t = true ∧ s1.take s.length = s ∧ E k t s) : rz (dfnOfX n b ts s) E := by
  obtain ⟨k, t, s1, e, hp, ht, hE⟩ := h
  refine ⟨k, t, s, ?_, hE⟩
  unfold dfnOfX
  rw [e]
  show popX s.length (.exc k t s1) = _
  unfold popX
  dsimp only
  rw [Zfv s.length s1 PD FU t (by decide) hp, ht, Zfk _ _ hs]
end
end Pr
namespace Pr
open PySem L2 Vs
section
variable {s : Sd}
end
end Pr
namespace Pr
open PySem L2 Vs
section
variable {s : Sd}
end
end Pr
namespace Pr
open PySem L2 Vs
section
variable {s : Sd} {P : T → Sd → Prop}
end
end Pr
namespace Pr
open PySem L2 Vs
/-! ### plain layers -/
/-! what the rows of one setting make of it -/
/-! the plain layer's rows, setting by setting -/
section
variable {ss : List Se} {rs : List Rw} {V : Str → Int}
end
end Pr
namespace Pr
open PySem L2 Vs
/-! ### the values behind a plain layer -/
section
variable {ss : List Se} {rs : List Rw} {V : Str → Int}
end
/-! ### layers one behind the other -/
end Pr
namespace Pr
open PySem L2 Vs
/-! ### names in another order; seals of all open settings -/
structure S2 (k : Nat) (s s' : Sd) (u v : Vs.TO) : Prop where
  len : s'.length = s.length + 2
  lo : ∀ j, j ≠ k → j < s.length → s'[j]? = s[j]?
  a : s'[s.length]? = some u
  b : s'[s.length + 1]? = some v
section
variable {k : Nat} {s s' s2 : Sd} {u v : Vs.TO}
theorem S2.step (h : S2 k s s' u v) (m : Sm k s' s2) (hk : k < s.length) : S2 k s s2 u v :=
  ⟨m.1.trans h.len, fun j n l => (m.2 j n).trans (h.lo j n l), (m.2 _ (by omega)).trans h.a, (m.2 _ (by omega)).trans h.b⟩
theorem S2.take (h : S2 k s s' u v) : Sm k s (s'.take s.length) := ⟨by rw [List.length_take, h.len]; omega, fun j n => by
  by_cases l : j < s.length
  · rw [List.getElem?_take, if_pos l]; exact h.lo j n l
  · rw [List.getElem?_take, if_neg l, List.getElem?_eq_none (by omega)]⟩
end
section
variable {α : Type} {g : DG} {t : DTm} {e : DE} {s : Sd}
end
section
variable {ss : List Se} {ys : List Str}
end
end Pr
namespace Pr
open PySem L2 Vs
/-! ### stacks of layers -/
noncomputable def Rw.bare : Rw → Prop
  | .set _ (.num _) => True
  | .set _ (.plus _ i) => i = 0
  | .add _ (.num _) => True
  | _ => False
section
variable {s : Sd} {ss : List Se} {o : List Str} {V : Str → Int} {a : DE} {δ : Ed}
end
noncomputable def Ly (l : List Rw) : T := .lst (l.map Rw.t)
theorem Ly.pure (l : List Rw) : pure? 5 (Ly l) = true := List.all_eq_true.mpr fun t ht => by
  obtain ⟨r, _, rfl⟩ := List.mem_map.mp ht
  exact Rw.pure r
end Pr
namespace Pr
open PySem L2 Vs
/-! ### what the law reckons of its own: values -/
section
variable {s : Sd} {t : T} {V : Str → Int} {xs : List Str} (hs : PureS s)
include hs
end
end Pr
namespace Pr
open PySem L2 Vs
/-! ### what the law reckons of its own: settings one after another -/
end Pr
namespace Pr
open PySem L2 Vs
/-! ### the plain layer as the law reckons it -/
end Pr
namespace Pr
open PySem L2 Vs
/-! ### rows that may not be allowed -/
section
variable {s : Sd} (hs : PureS s)
include hs
end
/-- the rows up to the j-th are allowed, the j-th is not -/
noncomputable def Bar (ss : List Se) (rs : List Rw) (j : Nat) : Prop := mays ss (rs.take j) ∧ ∃ r e, rs[j]? = some r ∧ e ∈ afts ss (rs.take j) ∧ e.nm = r.nm ∧ ¬ allow e.pm r
theorem Bar.lt {ss : List Se} {rs : List Rw} {j : Nat} (h : Bar ss rs j) : j < rs.length := by
  obtain ⟨_, r, e, hr, _⟩ := h
  exact (List.getElem?_eq_some_iff.mp hr).1
end Pr
namespace Pr
open PySem L2 Vs
/-! ### the second family of laws: what they draw -/
/-- the purse stands in cell k, at most b turns are spent; all cells are pure -/
structure Cx2 (s : Sd) (k b : Nat) : Prop where
  at_ : ∃ p0 p1 p2 : Int, s[k]? = some (.lst [.int p0, .int p1, .int p2]) ∧ 0 ≤ p0 ∧ 0 ≤ p1 ∧ p1 < 2147483629 ∧ 0 ≤ p2 ∧ p2 ≤ b
  pure : PureS s
  bd : b ≤ 2 ^ 60
theorem Cx2.mono {s : Sd} {k b c : Nat} (h : Cx2 s k b) (hc : b ≤ c) (hb : c ≤ 2 ^ 60) : Cx2 s k c := by
  obtain ⟨⟨p0, p1, p2, e, h0, h2, h3, h4, h5⟩, hp, hd⟩ := h
  exact ⟨⟨p0, p1, p2, e, h0, h2, h3, h4, by omega⟩, hp, hb⟩
theorem Cx2.lt {s : Sd} {k b : Nat} (h : Cx2 s k b) : k < s.length := by
  obtain ⟨⟨p0, p1, p2, e, _⟩, _⟩ := h
  exact (List.getElem?_eq_some_iff.mp e).1
theorem Cx2.set {s : Sd} {k b : Nat} (h : Cx2 s k b) {p0 p1 p2 : Int} {c : Nat} (h0 : 0 ≤ p0) (h2 : 0 ≤ p1) (h3 : p1 < 2147483629) (h4 : 0 ≤ p2) (h5 : p2 ≤ c) (hc : c ≤ 2 ^ 60) : Cx2 (s.set k (.lst [.int p0, .int p1, .int p2])) k c :=
  ⟨⟨p0, p1, p2, by rw [List.getElem?_set_self h.lt], h0, h2, h3, h4, h5⟩, h.pure.set rfl, hc⟩
theorem mixed2 {s : Sd} (h : PureS s) {c t : Int} (ht : 0 ≤ t) (ht2 : t ≤ 2 ^ 61) : wp (Zgp [.int c, .int t] s) fun x s' => ∃ r : Int, x = .int r ∧ s' = s := by
  unfold Zgp
  refine Zgj ?_
  simp only [Zdd, Zb5, Zcq, wx_c, Zay, Zan, Zag, Zcl, Zb2, Zco, Za7, Zbo, Zat, Zbp, Zdk, Zca, Zbx, Zby, Zc1, Zdz, Zbz, Zcz, Zbr, Zd1, Zcn, Zd6, Zao, Zdu, Zb8, Zdw, Zb6, Zbf, Zdv, Zcx, Za3, Zax, Zaq, Zbm, Zbe, Za6, Zbg, Zdo, Zdt, Zcr, Zcs, Zav, Zd4, Zck, Zb3, Zcb, Za0, Zcc, Zc0, Zcv, Zd8, Zec, Zd9, Zb0, Zdl, Zds, Zdm, Zea, Zd7, Zd0, Zcw, Zbk, Zc2, Zcp, Zc3, Zcy, Zcu, Zd3, Zd5, Zd2, Zeb, Za9, Zci, Zcj, Zct, Zcm, Zbh, Zbl, Zaw, Zau, Zbb, Zbc, Zbd, Zbi, Zbj, Za8, List.map_cons, List.map_nil, List.cons_append, List.nil_append, List.length_cons, List.length_nil, List.replicate_succ, List.replicate_zero, List.set_cons_succ, List.set_cons_zero, Nat.reduceAdd, Nat.reduceSub, Nat.reduceLeDiff, Nat.reduceLT, if_true, if_false, reduceIte, Bool.false_eq_true, Nat.zero_le, true_and, and_true]
  generalize h1 : (c * 69069 + 104729 * t * t + t) % 2147483647 = m1
  have b1 : 0 ≤ m1 ∧ m1 < 2147483647 := by omega
  generalize (m1 * m1 + 40503) % 2147483629 = m2
  refine ⟨Ziz (by omega), cMul_l (by omega), Ziz (by omega), by omega, Ziz (by omega), by omega, Ziz (by omega), by omega, rfl, h.take _, _, rfl, Zhk s⟩
theorem Zil {s : Sd} {k b : Nat} {n : Int} (h : Cx2 s k b) (hb : b + 6 ≤ 2 ^ 60) (h0 : 0 < n) (h1 : n < 2 ^ 128) : wp (Zba [.cell k, .int n] s) fun t s' => ∃ r : Int, t = .int r ∧ 0 ≤ r ∧ r < n ∧ Cx2 s' k (b + 6) ∧ Sm k s s' := by
  obtain ⟨⟨p0, p1, p2, e, g0, g2, g3, g4, g5⟩, hp, hd⟩ := id h
  unfold Zba
  refine Zgj ?_
  simp only [Zdd, Zb5, Zcq, wx_c, Zay, Zan, Zag, Zcl, Zb2, Zco, Za7, Zbo, Zat, Zbp, Zdk, Zca, Zbx, Zby, Zc1, Zdz, Zbz, Zcz, Zbr, Zd1, Zcn, Zd6, Zao, Zdu, Zb8, Zdw, Zb6, Zbf, Zdv, Zcx, Za3, Zax, Zaq, Zbm, Zbe, Za6, Zbg, Zdo, Zdt, Zcr, Zcs, Zav, Zd4, Zck, Zb3, Zcb, Za0, Zcc, Zc0, Zcv, Zd8, Zec, Zd9, Zb0, Zdl, Zds, Zdm, Zea, Zd7, Zd0, Zcw, Zbk, Zc2, Zcp, Zc3, Zcy, Zcu, Zd3, Zd5, Zd2, Zeb, Za9, Zci, Zcj, Zct, Zcm, Zbh, Zbl, Zaw, Zau, Zbb, Zbc, Zbd, Zbi, Zbj, Za8, List.map_cons, List.map_nil, List.cons_append, List.nil_append, List.length_cons, List.length_nil, List.replicate_succ, List.replicate_zero, List.set_cons_succ, List.set_cons_zero, Nat.reduceAdd, Nat.reduceSub, Nat.reduceLeDiff, Nat.reduceLT, if_true, if_false, reduceIte, Bool.false_eq_true, Nat.zero_le, true_and, and_true, ixC0 e, setC0 e, take_set]
  have l2 : n.natAbs.log2 < 128 := pow2_lt h0 h1
  have r0 := Int.emod_nonneg p0 (Int.ne_of_gt h0)
  have r1 := Int.emod_lt_of_pos p0 h0
  split
  · rename_i c
    have c := of_decide_eq_true c
    exact ⟨h0, decide_eq_true ⟨h0, by omega⟩, rfl, hp.set rfl, _, rfl, r0, r1, h.set (Int.ediv_nonneg g0 (Int.le_of_lt h0)) g2 g3 g4 (by omega) hb, Sm.set _ _ _⟩
  · have bl := bits_le h0 h1
    refine ⟨decide_eq_true ⟨by decide, by decide⟩, decide_eq_true (by omega), ?_⟩
    have len : (ranT (1 + (Builtin.Int.intBits n : Nat) / 28 : Int).toNat).length ≤ 6 := by
      unfold ranT
      rw [List.length_map, List.length_range]
      omega
    refine Zas (Zim (fun i δ s' => ∃ (x y : Option T) (f : Int), δ = [some (.cell k), some (.int n), x, some (.int f), y] ∧ s' = s.set k (.lst [.int p0, .int p1, .int (p2 + i)]) ∧ i ≤ 6) _ 0 _ s ⟨_, _, _, rfl, ?_, by omega⟩ ?_) ?_
    · have e' : s[k]'h.lt = .lst [.int p0, .int p1, .int p2] := (List.getElem?_eq_some_iff.mp e).2
      show s = s.set k (.lst [.int p0, .int p1, .int (p2 + 0)])
      rw [Int.add_zero, ← e', List.set_getElem_self]
    · rintro j t δ s' hj ⟨x, y, f, rfl, rfl, hi⟩
      have hj6 : j < 6 := Nat.lt_of_lt_of_le (List.getElem?_eq_some_iff.mp hj).1 len
      rw [Nat.zero_add] at hi ⊢
      have e1 : (s.set k (.lst [.int p0, .int p1, .int (p2 + j)]))[k]? = some (.lst [.int p0, .int p1, .int (p2 + j)]) := List.getElem?_set_self h.lt
      refine ⟨_, rfl, ?_⟩
      simp only [Zdd, Zb5, Zcq, wx_c, Zay, Zan, Zag, Zcl, Zb2, Zco, Za7, Zbo, Zat, Zbp, Zdk, Zca, Zbx, Zby, Zc1, Zdz, Zbz, Zcz, Zbr, Zd1, Zcn, Zd6, Zao, Zdu, Zb8, Zdw, Zb6, Zbf, Zdv, Zcx, Za3, Zax, Zaq, Zbm, Zbe, Za6, Zbg, Zdo, Zdt, Zcr, Zcs, Zav, Zd4, Zck, Zb3, Zcb, Za0, Zcc, Zc0, Zcv, Zd8, Zec, Zd9, Zb0, Zdl, Zds, Zdm, Zea, Zd7, Zd0, Zcw, Zbk, Zc2, Zcp, Zc3, Zcy, Zcu, Zd3, Zd5, Zd2, Zeb, Za9, Zci, Zcj, Zct, Zcm, Zbh, Zbl, Zaw, Zau, Zbb, Zbc, Zbd, Zbi, Zbj, Za8, List.map_cons, List.map_nil, List.cons_append, List.nil_append, List.length_cons, List.length_nil, List.replicate_succ, List.replicate_zero, List.set_cons_succ, List.set_cons_zero, Nat.reduceAdd, Nat.reduceSub, Nat.reduceLeDiff, Nat.reduceLT, if_true, if_false, reduceIte, Bool.false_eq_true, Nat.zero_le, true_and, and_true, ixC2 e1, setC2 e1, List.set_set]
      have e2 : (s.set k (.lst [.int p0, .int p1, .int (p2 + j + 1)]))[k]? = some (.lst [.int p0, .int p1, .int (p2 + j + 1)]) := List.getElem?_set_self h.lt
      refine ⟨Ziz (by omega), ?_⟩
      simp only [ixC1 e2, ixC2 e2]
      refine Zas (mixed2 (hp.set rfl) (by omega) (by omega)) ?_
      rintro _ _ ⟨r, rfl, rfl⟩
      simp only [Zdd, Zb5, Zcq, wx_c, Zay, Zan, Zag, Zcl, Zb2, Zco, Za7, Zbo, Zat, Zbp, Zdk, Zca, Zbx, Zby, Zc1, Zdz, Zbz, Zcz, Zbr, Zd1, Zcn, Zd6, Zao, Zdu, Zb8, Zdw, Zb6, Zbf, Zdv, Zcx, Za3, Zax, Zaq, Zbm, Zbe, Za6, Zbg, Zdo, Zdt, Zcr, Zcs, Zav, Zd4, Zck, Zb3, Zcb, Za0, Zcc, Zc0, Zcv, Zd8, Zec, Zd9, Zb0, Zdl, Zds, Zdm, Zea, Zd7, Zd0, Zcw, Zbk, Zc2, Zcp, Zc3, Zcy, Zcu, Zd3, Zd5, Zd2, Zeb, Za9, Zci, Zcj, Zct, Zcm, Zbh, Zbl, Zaw, Zau, Zbb, Zbc, Zbd, Zbi, Zbj, Za8, List.map_cons, List.map_nil, List.cons_append, List.nil_append, List.length_cons, List.length_nil, List.replicate_succ, List.replicate_zero, List.set_cons_succ, List.set_cons_zero, Nat.reduceAdd, Nat.reduceSub, Nat.reduceLeDiff, Nat.reduceLT, if_true, if_false, reduceIte, Bool.false_eq_true, Nat.zero_le, true_and, and_true]
      exact ⟨_, _, _, rfl, by rw [Int.add_assoc]; rfl, by omega⟩
    · rintro _ s' ⟨δ, rfl, x, y, f, rfl, rfl, hi⟩
      simp only [Zdd, Zb5, Zcq, wx_c, Zay, Zan, Zag, Zcl, Zb2, Zco, Za7, Zbo, Zat, Zbp, Zdk, Zca, Zbx, Zby, Zc1, Zdz, Zbz, Zcz, Zbr, Zd1, Zcn, Zd6, Zao, Zdu, Zb8, Zdw, Zb6, Zbf, Zdv, Zcx, Za3, Zax, Zaq, Zbm, Zbe, Za6, Zbg, Zdo, Zdt, Zcr, Zcs, Zav, Zd4, Zck, Zb3, Zcb, Za0, Zcc, Zc0, Zcv, Zd8, Zec, Zd9, Zb0, Zdl, Zds, Zdm, Zea, Zd7, Zd0, Zcw, Zbk, Zc2, Zcp, Zc3, Zcy, Zcu, Zd3, Zd5, Zd2, Zeb, Za9, Zci, Zcj, Zct, Zcm, Zbh, Zbl, Zaw, Zau, Zbb, Zbc, Zbd, Zbi, Zbj, Za8, List.map_cons, List.map_nil, List.cons_append, List.nil_append, List.length_cons, List.length_nil, List.replicate_succ, List.replicate_zero, List.set_cons_succ, List.set_cons_zero, Nat.reduceAdd, Nat.reduceSub, Nat.reduceLeDiff, Nat.reduceLT, if_true, if_false, reduceIte, Bool.false_eq_true, Nat.zero_le, true_and, and_true, take_set]
      rw [Nat.zero_add] at hi ⊢
      exact ⟨h0, rfl, hp.set rfl, _, rfl, Int.emod_nonneg _ (Int.ne_of_gt h0), Int.emod_lt_of_pos _ h0, h.set g0 g2 g3 (by omega) (by omega) hb, Sm.set _ _ _⟩
theorem Cx2.setO {s : Sd} {k b j : Nat} (h : Cx2 s k b) (n : j ≠ k) {o : Vs.TO} (ho : Zhj o = true) : Cx2 (s.set j o) k b := by
  obtain ⟨⟨p0, p1, p2, e, r⟩, hp, hd⟩ := h
  exact ⟨⟨p0, p1, p2, by rw [List.getElem?_set_ne n]; exact e, r⟩, hp.set ho, hd⟩
theorem Cx2.app {s : Sd} {k b : Nat} (h : Cx2 s k b) {o : Vs.TO} (ho : Zhj o = true) : Cx2 (s ++ [o]) k b := by
  have hl := h.lt
  obtain ⟨⟨p0, p1, p2, e, r⟩, hp, hd⟩ := h
  exact ⟨⟨p0, p1, p2, by rw [List.getElem?_append_left hl]; exact e, r⟩, hp.app ho, hd⟩
theorem Cx2.take {s : Sd} {k b n : Nat} (h : Cx2 s k b) (hk : k < n) : Cx2 (s.take n) k b := by
  obtain ⟨⟨p0, p1, p2, e, r⟩, hp, hd⟩ := h
  exact ⟨⟨p0, p1, p2, by rw [List.getElem?_take, if_pos hk]; exact e, r⟩, hp.take n, hd⟩
end Pr
namespace Pr
open PySem L2 Vs
/-! ### definitions, limits, names of the second family -/
end Pr
namespace Pr
open PySem L2 Vs
/-! ### names, costs, settings of the second family -/
theorem is_strE {e : DE} {z : Str} {δ : Ed} {s : Sd} (h : Is (e δ s) (.str z) s) : Is (xn_str e δ s) (z.cps.toList.map fun c => .str ⟨#[c]⟩, false) s := by
  unfold xn_str
  rw [h.eq, Zce]
  exact ⟨rfl, rfl⟩
noncomputable def tailS : Str := cutS "abcdefghijklmnopqrstuvwxyz" (some 13) none
noncomputable def firsts2 : List Nat := tailS.cps.toList
theorem firsts2_ltr : ∀ c ∈ firsts2, 97 ≤ c ∧ c ≤ 122 := by decide +kernel
theorem firsts2_nd : firsts2.Nodup := by decide +kernel
theorem Zhr : firsts2.length = 13 := by decide +kernel
theorem first_free2 {xs : List Str} {w : Str} (hl : xs.length ≤ 11) : ([w] ++ firsts2.map fun c => (⟨#[c]⟩ : Str) ++ cutS w none (some 9)).filter (fun x => !decide (x ∈ xs)) ≠ [] := by
  intro z
  have h : ∀ x ∈ firsts2.map (fun c => (⟨#[c]⟩ : Str) ++ cutS w none (some 9)), x ∈ xs := fun x hx => by
    have := List.filter_eq_nil_iff.mp z x (List.mem_append_right _ hx)
    simpa using this
  have nd : (firsts2.map fun c => (⟨#[c]⟩ : Str) ++ cutS w none (some 9)).Nodup := by
    refine List.pairwise_map.mpr (List.Pairwise.imp (fun {a b} hne e => hne ?_) firsts2_nd)
    have e2 := congrArg (fun x : Str => x.cps.toList) e
    simp only [app_cps] at e2
    have e3 : a :: (cutS w none (some 9)).cps.toList = b :: (cutS w none (some 9)).cps.toList := e2
    exact (List.cons.inj e3).1
  have := Zfu nd h
  rw [List.length_map, Zhr] at this
  omega
noncomputable def formW2 : List Str := ["free", "sealed", "choice", "extend", "number", "plus", "max", "min", "if", "set", "case", "ring"]
theorem formW2_nm : ∀ x ∈ formW2, isNm x = true := by decide +kernel
noncomputable abbrev abcS : Str := "abcdefghijklmnopqrstuvwxyz"
theorem Zm1 : Str.length abcS = 26 := by decide +kernel
end Pr
namespace Pr
open PySem L2 Vs
/-! ### settings and books of the second family -/
end Pr
namespace Pr
open PySem L2 Vs
/-! ### books of the second family -/
end Pr
namespace Pr
open PySem L2 Vs
/-! ### the drawn numbers are bounded (N1 to N5 once more) -/
noncomputable def BI (i : Int) : Prop := -(10 ^ 38) ≤ i ∧ i ≤ 10 ^ 38
noncomputable def lbd : Option Int → Prop
  | none => True
  | some i => BI i
noncomputable def On.bd : On → Prop
  | .num i => BI i
  | .nm _ => True
noncomputable def Dn.bd : Dn → Prop
  | .num i => BI i
  | .plus _ i => BI i
  | .ext _ ops => ∀ o ∈ ops, o.bd
  | .iff a b c d => a.bd ∧ b.bd ∧ c.bd ∧ d.bd
noncomputable def Pn.bd : Pn → Prop
  | .sealed lo hi => lbd lo ∧ lbd hi
  | .free lo hi _ => lbd lo ∧ lbd hi
  | _ => True
noncomputable def Se.bd (e : Se) : Prop := e.df.bd ∧ e.pm.bd
noncomputable def OpdB (xs : List Str) (t : T) : Prop := (∃ i, t = .int i ∧ BI i) ∨ ∃ x ∈ xs, t = .str x
theorem OpdB.opd {xs : List Str} {t : T} (h : OpdB xs t) : Opd xs t := h.imp (fun ⟨i, e, _⟩ => ⟨i, e⟩) id
theorem OpdB.pure {xs : List Str} {t : T} (h : OpdB xs t) (d : Nat) : pure? d t = true := h.opd.pure d
theorem number2b {s : Sd} {k b : Nat} (h : Cx2 s k b) (hb : b + 12 ≤ 2 ^ 60) : wp (Ze0 [.cell k] s) fun t s' => ∃ r : Int, t = .int r ∧ BI r ∧ Cx2 s' k (b + 12) ∧ Sm k s s' := by
  unfold Ze0
  refine Zgj ?_
  simp only [Zdd, Zb5, Zcq, wx_c, Zay, Zan, Zag, Zcl, Zb2, Zco, Za7, Zbo, Zat, Zbp, Zdk, Zca, Zbx, Zby, Zc1, Zdz, Zbz, Zcz, Zbr, Zd1, Zcn, Zd6, Zao, Zdu, Zb8, Zdw, Zb6, Zbf, Zdv, Zcx, Za3, Zax, Zaq, Zbm, Zbe, Za6, Zbg, Zdo, Zdt, Zcr, Zcs, Zav, Zd4, Zck, Zb3, Zcb, Za0, Zcc, Zc0, Zcv, Zd8, Zec, Zd9, Zb0, Zdl, Zds, Zdm, Zea, Zd7, Zd0, Zcw, Zbk, Zc2, Zcp, Zc3, Zcy, Zcu, Zd3, Zd5, Zd2, Zeb, Za9, Zci, Zcj, Zct, Zcm, Zbh, Zbl, Zaw, Zau, Zbb, Zbc, Zbd, Zbi, Zbj, Za8, List.map_cons, List.map_nil, List.cons_append, List.nil_append, List.length_cons, List.length_nil, List.replicate_succ, List.replicate_zero, List.set_cons_succ, List.set_cons_zero, Nat.reduceAdd, Nat.reduceSub, Nat.reduceLeDiff, Nat.reduceLT, if_true, if_false, reduceIte, Bool.false_eq_true, Nat.zero_le, true_and, and_true]
  refine ⟨by decide, by decide, by decide, ?_⟩
  refine Zas (Zil (n := 7) h (by omega) (by decide) (by decide)) ?_
  rintro _ s1 ⟨r, rfl, r0, r1, h1, m1⟩
  refine Zgl (.inl rfl) r0 (by simpa using r1) fun t ht => ?_
  have key : ∃ w : Int, t = .int w ∧ 0 ≤ w ∧ w ≤ 10 ^ 38 := by
    simp only [List.mem_cons, List.not_mem_nil, or_false] at ht
    rcases ht with rfl | rfl | rfl | rfl | rfl | rfl | rfl <;> exact ⟨_, rfl, by decide, by decide⟩
  obtain ⟨w, rfl, w0, w1⟩ := key
  simp only [Zdd, Zb5, Zcq, wx_c, Zay, Zan, Zag, Zcl, Zb2, Zco, Za7, Zbo, Zat, Zbp, Zdk, Zca, Zbx, Zby, Zc1, Zdz, Zbz, Zcz, Zbr, Zd1, Zcn, Zd6, Zao, Zdu, Zb8, Zdw, Zb6, Zbf, Zdv, Zcx, Za3, Zax, Zaq, Zbm, Zbe, Za6, Zbg, Zdo, Zdt, Zcr, Zcs, Zav, Zd4, Zck, Zb3, Zcb, Za0, Zcc, Zc0, Zcv, Zd8, Zec, Zd9, Zb0, Zdl, Zds, Zdm, Zea, Zd7, Zd0, Zcw, Zbk, Zc2, Zcp, Zc3, Zcy, Zcu, Zd3, Zd5, Zd2, Zeb, Za9, Zci, Zcj, Zct, Zcm, Zbh, Zbl, Zaw, Zau, Zbb, Zbc, Zbd, Zbi, Zbj, Za8, List.map_cons, List.map_nil, List.cons_append, List.nil_append, List.length_cons, List.length_nil, List.replicate_succ, List.replicate_zero, List.set_cons_succ, List.set_cons_zero, Nat.reduceAdd, Nat.reduceSub, Nat.reduceLeDiff, Nat.reduceLT, if_true, if_false, reduceIte, Bool.false_eq_true, Nat.zero_le, true_and, and_true]
  refine ⟨cMul_l (by decide), ?_⟩
  refine Zas (Zil h1 (by omega) (by omega) (by omega)) ?_
  rintro _ s2 ⟨r2, rfl, r3, r4, h2, m2⟩
  have m := m1.trans m2
  simp only [Zdd, Zb5, Zcq, wx_c, Zay, Zan, Zag, Zcl, Zb2, Zco, Za7, Zbo, Zat, Zbp, Zdk, Zca, Zbx, Zby, Zc1, Zdz, Zbz, Zcz, Zbr, Zd1, Zcn, Zd6, Zao, Zdu, Zb8, Zdw, Zb6, Zbf, Zdv, Zcx, Za3, Zax, Zaq, Zbm, Zbe, Za6, Zbg, Zdo, Zdt, Zcr, Zcs, Zav, Zd4, Zck, Zb3, Zcb, Za0, Zcc, Zc0, Zcv, Zd8, Zec, Zd9, Zb0, Zdl, Zds, Zdm, Zea, Zd7, Zd0, Zcw, Zbk, Zc2, Zcp, Zc3, Zcy, Zcu, Zd3, Zd5, Zd2, Zeb, Za9, Zci, Zcj, Zct, Zcm, Zbh, Zbl, Zaw, Zau, Zbb, Zbc, Zbd, Zbi, Zbj, Za8, List.map_cons, List.map_nil, List.cons_append, List.nil_append, List.length_cons, List.length_nil, List.replicate_succ, List.replicate_zero, List.set_cons_succ, List.set_cons_zero, Nat.reduceAdd, Nat.reduceSub, Nat.reduceLeDiff, Nat.reduceLT, if_true, if_false, reduceIte, Bool.false_eq_true, Nat.zero_le, true_and, and_true, m.take]
  exact ⟨rfl, h2.pure, _, rfl, ⟨by omega, by omega⟩, h2, m⟩
end Pr
namespace Pr
open PySem L2 Vs
/-! ### the text of drawn settings is short -/
theorem bi_nat {i : Int} (h : BI i) : i.natAbs < 10 ^ 40 := by
  obtain ⟨h1, h2⟩ := h
  omega
theorem int_b {i : Int} (h : BI i) (d : Nat) : bdat d (.int i) = true := by
  cases d <;> exact decide_eq_true (bi_nat h)
theorem str_b {x : Str} (h : isNm x = true) (d : Nat) : bdat d (.str x) = true := by
  have e1 := Znk h d
  have e2 : PyData.strOk x = true := by cases d <;> exact e1
  have e3 : x.cps.size ≤ 100 := by
    have z : x.length ≤ 10 := (Zg4 h).2
    exact Nat.le_trans (show x.cps.size ≤ 10 from z) (by decide)
  have e4 : (PyData.strOk x && decide (x.cps.size ≤ 100)) = true := by rw [e2, Bool.true_and]; exact decide_eq_true e3
  cases d <;> exact e4
theorem lim_b {l : Option Int} (h : lbd l) (d : Nat) : bdat d (limT l) = true := by
  cases l with
  | none => cases d <;> rfl
  | some i => exact int_b h d
theorem On.b {o : On} {xs : List Str} (a : Zh1 xs) (h : o.inn xs) (b : o.bd) (d : Nat) : bdat d o.t = true := by
  cases o with
  | num i => exact int_b b d
  | nm x => exact str_b (a x h) d
theorem strs_b {ns : List Str} (a : Zh1 ns) (d : Nat) : bdat (d + 1) (.lst (ns.map T.str)) = true := List.all_eq_true.mpr fun t ht => by
  obtain ⟨x, hx, rfl⟩ := List.mem_map.mp ht
  exact str_b (a x hx) d
theorem Dn.b {e : Dn} {xs : List Str} (a : Zh1 xs) (h : e.inn xs) (b : e.bd) : bdat 2 e.t = true := by
  cases e with
  | num i =>
    show ([T.str "number", .int i]).all (bdat 1) = true
    simp only [List.all_cons, List.all_nil, Bool.and_true, int_b b]
    decide +kernel
  | plus x i =>
    show ([T.str "plus", .str x, .int i]).all (bdat 1) = true
    simp only [List.all_cons, List.all_nil, Bool.and_true, str_b (a x h) 1, int_b b]
    decide +kernel
  | ext mx ops =>
    show ([T.str (mw mx), .lst (ops.map On.t)]).all (bdat 1) = true
    have e1 : bdat 1 (.lst (ops.map On.t)) = true := List.all_eq_true.mpr fun t ht => by
      obtain ⟨o, ho, rfl⟩ := List.mem_map.mp ht
      exact On.b a (h.2.2 o ho) (b o ho) 0
    simp only [List.all_cons, List.all_nil, Bool.and_true, e1]
    cases mx <;> decide +kernel
  | iff l r x y =>
    show ([T.str "if", l.t, r.t, x.t, y.t]).all (bdat 1) = true
    simp only [List.all_cons, List.all_nil, Bool.and_true, On.b a h.1 b.1 1, On.b a h.2.1 b.2.1 1, On.b a h.2.2.1 b.2.2.1 1, On.b a h.2.2.2 b.2.2.2 1]
    decide +kernel
theorem Pn.b {e : Pn} {xs : List Str} (a : Zh1 xs) (h : e.inn xs) (b : e.bd) : bdat 2 e.t = true := by
  have sub : ∀ {ns : List Str}, (∀ x ∈ ns, x ∈ xs) → bdat 1 (.lst (ns.map T.str)) = true := fun m => strs_b (fun x hx => a x (m x hx)) 0
  cases e with
  | «sealed» lo hi =>
    show ([T.str "sealed", limT lo, limT hi]).all (bdat 1) = true
    simp only [List.all_cons, List.all_nil, Bool.and_true, lim_b b.1 1, lim_b b.2 1]
    decide +kernel
  | free lo hi ns =>
    show ([T.str "free", limT lo, limT hi, .lst (ns.map T.str)]).all (bdat 1) = true
    simp only [List.all_cons, List.all_nil, Bool.and_true, lim_b b.1 1, lim_b b.2 1, sub h.2.2]
    decide +kernel
  | choice ns =>
    show ([T.str "choice", .lst (ns.map T.str)]).all (bdat 1) = true
    simp only [List.all_cons, List.all_nil, Bool.and_true, sub h.2.2]
    decide +kernel
  | extend ns =>
    show ([T.str "extend", .lst (ns.map T.str)]).all (bdat 1) = true
    simp only [List.all_cons, List.all_nil, Bool.and_true, sub h.2]
    decide +kernel
theorem Se.b {ss : List Se} (g : Good ss) {e : Se} (he : e ∈ ss) (b : e.bd) : bdat 3 e.t = true := by
  show ([T.str e.nm, e.pm.t, e.df.t]).all (bdat 2) = true
  simp only [List.all_cons, List.all_nil, Bool.and_true, str_b (g.ok e he).1 2, Pn.b g.nms (g.ok e he).2.pm b.2, Dn.b g.nms (g.ok e he).2.df b.1]
theorem Good.b {ss : List Se} (g : Good ss) (b : ∀ e ∈ ss, e.bd) : bdat 4 (.lst (ss.map Se.t)) = true := List.all_eq_true.mpr fun t ht => by
  obtain ⟨e, he, rfl⟩ := List.mem_map.mp ht
  exact Se.b g he (b e he)
theorem Znh : ∀ {ts : List T} {d : Nat}, (∀ t ∈ ts, tsz d t = 1) → (ts.map (tsz d)).sum = ts.length
  | [], _, _ => rfl
  | t :: ts, d, h => by
    rw [List.map_cons, List.sum_cons, List.length_cons, h t List.mem_cons_self, Znh fun u hu => h u (List.mem_cons_of_mem _ hu)]
    omega
theorem on_sz (o : On) (d : Nat) : tsz d o.t = 1 := by cases o <;> cases d <;> rfl
theorem Ziy (x : Str) (d : Nat) : tsz d (.str x) = 1 := by cases d <;> rfl
theorem int_sz (x : Int) (d : Nat) : tsz d (.int x) = 1 := by cases d <;> rfl
theorem lim_sz (l : Option Int) (d : Nat) : tsz d (limT l) = 1 := by cases l <;> cases d <;> rfl
theorem strs_sz (ns : List Str) (d : Nat) : tsz (d + 1) (.lst (ns.map T.str)) = 1 + ns.length := by
  show 1 + ((ns.map T.str).map (tsz d)).sum = _
  rw [Znh fun t ht => by obtain ⟨x, _, rfl⟩ := List.mem_map.mp ht; exact Ziy x d, List.length_map]
theorem ops_sz (os : List On) (d : Nat) : tsz (d + 1) (.lst (os.map On.t)) = 1 + os.length := by
  show 1 + ((os.map On.t).map (tsz d)).sum = _
  rw [Znh fun t ht => by obtain ⟨x, _, rfl⟩ := List.mem_map.mp ht; exact on_sz x d, List.length_map]
theorem Zjw (ts : List T) (d : Nat) : tsz (d + 1) (.tup ts) = 1 + (ts.map (tsz d)).sum := rfl
theorem Dn.sz {e : Dn} {xs : List Str} (h : e.inn xs) : tsz 2 e.t ≤ 50 := by
  cases e with
  | num i => simp only [Dn.t, Zjw, List.map_cons, List.map_nil, List.sum_cons, List.sum_nil, Ziy, int_sz]; omega
  | plus x i => simp only [Dn.t, Zjw, List.map_cons, List.map_nil, List.sum_cons, List.sum_nil, Ziy, int_sz]; omega
  | ext mx ops =>
    have := h.2.1
    simp only [Dn.t, Zjw, List.map_cons, List.map_nil, List.sum_cons, List.sum_nil, Ziy, ops_sz]
    omega
  | iff l r x y => simp only [Dn.t, Zjw, List.map_cons, List.map_nil, List.sum_cons, List.sum_nil, Ziy, on_sz]; omega
theorem Pn.sz {e : Pn} {xs : List Str} (h : e.inn xs) : tsz 2 e.t ≤ 10 + xs.length := by
  cases e with
  | «sealed» lo hi => simp only [Pn.t, Zjw, List.map_cons, List.map_nil, List.sum_cons, List.sum_nil, Ziy, lim_sz]; omega
  | free lo hi ns =>
    have := Zfu h.2.1 h.2.2
    simp only [Pn.t, Zjw, List.map_cons, List.map_nil, List.sum_cons, List.sum_nil, Ziy, lim_sz, strs_sz]
    omega
  | choice ns =>
    have := Zfu h.2.1 h.2.2
    simp only [Pn.t, Zjw, List.map_cons, List.map_nil, List.sum_cons, List.sum_nil, Ziy, strs_sz]
    omega
  | extend ns =>
    have := Zfu h.1 h.2
    simp only [Pn.t, Zjw, List.map_cons, List.map_nil, List.sum_cons, List.sum_nil, Ziy, strs_sz]
    omega
theorem Se.sz {e : Se} {xs : List Str} (h : e.ok xs) : tsz 3 e.t ≤ 70 + xs.length := by
  have a := Dn.sz h.df
  have b := Pn.sz h.pm
  simp only [Se.t, Zjw, List.map_cons, List.map_nil, List.sum_cons, List.sum_nil, Ziy]
  omega
theorem Good.sz {ss : List Se} (g : Good ss) (hl : ss.length ≤ 16) : tsz 4 (.lst (ss.map Se.t)) ≤ 2000 := by
  have key : ∀ us : List Se, (∀ e ∈ us, e ∈ ss) → ((us.map Se.t).map (tsz 3)).sum ≤ 100 * us.length := fun us => by
    induction us with
    | nil => intro _; simp
    | cons u us ih =>
      intro h
      have a := Se.sz (g.ok u (h u List.mem_cons_self)).2
      have b := ih fun e he => h e (List.mem_cons_of_mem _ he)
      have c : (Pr.nms ss).length = ss.length := by rw [List.length_map]
      simp only [List.map_cons, List.sum_cons, List.length_cons]
      omega
  show 1 + ((ss.map Se.t).map (tsz 3)).sum ≤ 2000
  have := key ss fun e he => he
  omega
end Pr
namespace Pr
open PySem L2 Vs
/-! ### ranks -/
section
variable {s : Sd} {ss : List Se} {o : List Str} {V : Str → Int} {a : DE} {δ : Ed}
end
section
variable {s : Sd} {ss us : List Se} {V W : Str → Int} {P : T → Sd → Prop}
end
end Pr
namespace Pr
open PySem L2 Vs
/-! ### ranks as the law reckons them -/
end Pr
namespace Pr
open PySem L2 Vs
/-! ### what law k05 reckons of its own: mentions -/
/-- a part of a permission or of a definition -/
inductive Pt where
  | non | at_ (o : On) | ls (os : List On)
noncomputable def Pt.t : Pt → T
  | .non => .non
  | .at_ o => o.t
  | .ls os => .lst (os.map On.t)
noncomputable def Pt.nms : Pt → List Str
  | .non => []
  | .at_ o => [o].filterMap On.nms
  | .ls os => os.filterMap On.nms
noncomputable def limP : Option Int → Pt
  | none => .non
  | some i => .at_ (.num i)
noncomputable def Pn.pts : Pn → List Pt
  | .sealed lo hi => [limP lo, limP hi]
  | .free lo hi ns => [limP lo, limP hi, .ls (ns.map On.nm)]
  | .choice ns => [.ls (ns.map On.nm)]
  | .extend ns => [.ls (ns.map On.nm)]
noncomputable def Dn.pts : Dn → List Pt
  | .num i => [.at_ (.num i)]
  | .plus x i => [.at_ (.nm x), .at_ (.num i)]
  | .ext _ ops => [.ls ops]
  | .iff a b c d => [.at_ a, .at_ b, .at_ c, .at_ d]
noncomputable def Pt.its : Pt → List (Option On)
  | .non => [none]
  | .at_ o => [some o]
  | .ls os => os.map some
end Pr
namespace Pr
open PySem L2 Vs
/-! ### ranks as law k05 reckons them -/
/-- m is the greatest of 0 and of l -/
noncomputable def Mx (l : List Int) (m : Int) : Prop := m ∈ 0 :: l ∧ ∀ y ∈ 0 :: l, y ≤ m
theorem Mx.step {l : List Int} {m v : Int} (h : Mx l m) : Mx (l ++ [v + 1]) (if v ≥ m then v + 1 else m) := by
  obtain ⟨h1, h2⟩ := h
  by_cases c : v ≥ m
  · rw [if_pos c]
    refine ⟨by simp, fun y hy => ?_⟩
    rw [List.mem_cons, List.mem_append, List.mem_singleton] at hy
    rcases hy with q | q | q
    · have := h2 y (by rw [q]; exact List.mem_cons_self); omega
    · have := h2 y (List.mem_cons_of_mem _ q); omega
    · omega
  · rw [if_neg c]
    refine ⟨?_, fun y hy => ?_⟩
    · rcases List.mem_cons.mp h1 with q | q
      · rw [q]; exact List.mem_cons_self
      · exact List.mem_cons_of_mem _ (List.mem_append_left _ q)
    · rw [List.mem_cons, List.mem_append, List.mem_singleton] at hy
      rcases hy with q | q | q
      · exact h2 y (by rw [q]; exact List.mem_cons_self)
      · exact h2 y (List.mem_cons_of_mem _ q)
      · omega
end Pr
namespace Pr
open PySem L2 Vs
/-! ### chains as law k05 draws them -/
end Pr
/-! What is made stays a cell: no frame, no comprehension is left, until a scope ends. -/
namespace Vs
open PySem L2
/-- the frame's cells stay -/
noncomputable def dfnOfR (k : Nat) (b : DSt) : DFn := fun ts s => (b (ts.map some ++ List.replicate (k - ts.length) none) s).bind fun f s1 => match f with
  | .rt t => .ok t s1
  | .nx _ => .ok .non s1
  | _ => .bad
theorem rf_defR {k : Nat} {b : SM} {db : DSt} (hb : RSt none b db) : RF (fnOf k b) (dfnOfR k db) := by
  intro lk e c μ ws ts s h d
  subst e
  unfold dfnOfR fnOf
  refine (hb h (Zma d)).bind fun f s1 x μ1 c1 n1 h1 dx => ?_
  cases f with
  | nx δ1 =>
    obtain ⟨σ1, rfl, sd1⟩ := dx
    exact Zdr h1 Zmi
  | rt t =>
    obtain ⟨w, rfl, d⟩ := dx
    exact Zdr h1 d
  | _ => exact True.intro
section
variable {lk : Option Nat}
end
end Vs
/-! A new instance of a list that stands in the last cell: what is no list of conflicts is raised itself. -/
namespace Vs
open PySem L2
open Classical in
noncomputable def x_mkB (c i : Nat) (qX qA : DFn) : DE := fun δ s => match δ[i]? with
  | some (some (.cell k)) => match s[k]? with
    | some (.lst ts) => if k + 1 = s.length ∧ (s.take k).all Zm0 = true ∧ fr k s FU (.lst ts) = some (.lst ts) ∧ qA [.lst ts] (s.take k ++ [.ins c []]) = .ok (.bl false) (s.take k ++ [.ins c []]) then .exc 11 (.cell k) s else .bad
    | _ => .bad
  | _ => Zht c qX (Zaa (Zad i) Zaf) δ s
theorem sd_at {lk : Option Nat} {c : List Nat} {μ : Mem} {σ : En} {δ : Ed} (d : SD lk c μ σ δ) : ∀ {i : Nat} {t : T}, δ[i]? = some (some t) → ∃ w, σ[i]? = some (some w) ∧ Dt lk c μ t w := by
  induction d with
  | nil => intro i t e; simp at e
  | cons p q ih =>
    intro i t e
    cases i with
    | zero =>
      simp at e
      subst e
      obtain ⟨v, rfl, hv⟩ := p
      exact ⟨v, rfl, hv⟩
    | succ i => simpa using ih (i := i) (t := t) (by simpa using e)
theorem co_cut {c0 e : List Nat} {m : Mem} {s0 x : Sd} (h : CO none (c0 ++ e) m (s0 ++ x)) (hl : c0.length = s0.length) (f : s0.all Zm0 = true) : CO none c0 m s0 := by
  refine ⟨hl, (List.nodup_append.mp h.nd).1, fun k l o a b => ?_⟩
  have hk : k < c0.length := (List.getElem?_eq_some_iff.mp a).1
  obtain ⟨u, e3, r⟩ := h.ob k l o (by rw [List.getElem?_append_left hk]; exact a) (by rw [List.getElem?_append_left (by omega)]; exact b)
  refine ⟨u, e3, ?_⟩
  have fo := List.all_eq_true.mp f o (List.mem_of_getElem? b)
  cases o with
  | lst ts' =>
    obtain ⟨ws', e, r⟩ := r
    exact ⟨ws', e, Zm7 fo r⟩
  | scr ns => exact r
  | _ => cases fo
theorem r_mkB {c i : Nat} {dX dA : Fn} {qX qA : DFn} (hX : ∀ (me w : W) (μ m : Mem), dA [w] μ = .ok (.bl false) m → dX [me, w] μ = .exc 11 w m) (hq : RF dX qX) (hA : RF dA qA) : RE none (e_make c dX (Zac (Zah i) a_nil)) (x_mkB c i qX qA) := by
  intro c1 μ σ δ s h sd
  unfold x_mkB
  split
  · rename_i k hk
    split
    · rename_i ts hs
      split
      · rename_i hc
        obtain ⟨kl, hf, hfr, hqa⟩ := hc
        -- the cells: all but the last, the last
        have len := h.len
        obtain ⟨c0, l, rfl⟩ : ∃ c0 l, c1 = c0 ++ [l] := by
          rcases List.eq_nil_or_concat c1 with rfl | ⟨c0, l, rfl⟩
          · simp at len; omega
          · exact ⟨c0, l, List.concat_eq_append ..⟩
        have l0 : c0.length = k := by
          rw [List.length_append, List.length_singleton] at len
          omega
        have et : (s.take k).length = k := by rw [List.length_take]; omega
        have es : s = s.take k ++ [.lst ts] := by
          have h1 : s.drop k = [.lst ts] := by
            rw [List.drop_eq_getElem_cons (by omega), List.drop_eq_nil_of_le (by omega)]
            rw [List.getElem?_eq_getElem (by omega)] at hs
            rw [Option.some.inj hs]
          conv => lhs; rw [← List.take_append_drop k s, h1]
        have nl : l ∉ c0 := fun z => by
          have := (List.nodup_append.mp h.nd).2.2 l z l (by simp)
          exact this rfl
        have h0 : CO none c0 μ (s.take k) := by
          refine co_cut (e := [l]) (x := [.lst ts]) ?_ (by rw [l0, et]) hf
          rw [← es]; exact h
        obtain ⟨u, am, ws, rfl, r⟩ : ∃ u, μ[l]? = some u ∧ ∃ ws, u = .lst ws ∧ DtL none (c0 ++ [l]) μ ts ws := by
          obtain ⟨u, e1, ws, e2, r⟩ := h.ob k l (.lst ts) (by rw [← l0]; simp) hs
          exact ⟨u, e1, ws, e2, r⟩
        -- the frozen list
        have r0 : DtL none c0 μ ts ws := by
          have F := (fr_ok h FU)
          unfold fr at hfr
          obtain ⟨us, g1, g2⟩ := Option.map_eq_some_iff.mp hfr
          cases g2
          have fr' : trav (fr c0.length s 29) ts = some ts := by rw [l0]; exact g1
          exact (fr_ok h 29).list r fr'
        -- the variable
        obtain ⟨w, ew, dw⟩ : ∃ w, σ[i]? = some (some w) ∧ Dt none (c0 ++ [l]) μ (.cell k) w := sd_at sd hk
        have wl : w = .loc l := by
          unfold Dt at dw
          obtain ⟨l', e1, e2⟩ := dw
          rw [← l0] at e1
          simp at e1
          rw [e2, e1]
        subst wl
        -- the new instance, and what are_conflicts says
        obtain ⟨w2, m2, c2, e2, x2, h2, d2⟩ := Zko h0 (o := .ins c []) (u := .ins c []) ⟨[], rfl, by unfold DtF; rfl⟩
        cases e2
        have dl : DtL none c2 (μ ++ [.ins c []]) [.lst ts] [.loc l] := by
          refine Zdj (Dt.mono x2 ?_) Zev
          unfold Dt
          exact ⟨l, ws, rfl, nl, am, r0⟩
        have ra := hA rfl h2 dl
        rw [hqa] at ra
        obtain ⟨wb, m, c3, e3, x3, h3, d3⟩ := ra
        have wb0 : wb = .bl false := by unfold Dt at d3; exact d3
        subst wb0
        have run := hX (.loc μ.length) (.loc l) _ _ e3
        have e4 : e_make c dX (Zac (Zah i) a_nil) σ μ = .exc 11 (.loc l) m := by
          unfold e_make Zac a_nil Zah
          rw [ew]
          show (dX [.loc μ.length, .loc l] (μ ++ [.ins c []])).bind _ = _
          rw [run]
          rfl
        rw [e4]
        have xx := x2.trans x3
        have nx : Nx (c0 ++ [l]) μ (c0 ++ [l]) m := ⟨⟨[], by simp, fun _ z => by cases z⟩, fun l' o n e => xx.kp l' o (fun z => n (List.mem_append_left _ z)) e, xx.len⟩
        have h30 : CO none c0 m (s.take k) := by
          obtain ⟨e', rfl, _⟩ := xx.gr
          exact co_cut (x := [.ins c []]) h3 (by rw [l0, et]) hf
        have am' : m[l]? = some (.lst ws) := xx.kp l _ nl am
        have r0' : DtL none c0 m ts ws := by
          refine DtL.mono (c := c0) (μ := μ) ⟨⟨[], by simp, fun _ z => by cases z⟩, xx.kp, xx.len⟩ r0
        refine ⟨.loc l, m, c0 ++ [l], rfl, nx, ?_, ?_⟩
        · have := co_thaw h30 nl am' r0' hf
          rw [← es] at this
          exact this
        · unfold Dt
          exact ⟨l, by rw [← l0]; simp, rfl⟩
      · exact True.intro
    · exact True.intro
  · exact r_makeX hq (Zae (Zal i) Za4) h sd
end Vs
namespace Pr
open PySem L2 Vs
theorem rf_is_name : RF d_is_name Zfs := Zfa (Zb9 (Zit (rt_or (Zh9 (Zh2 (r_isT (Zal 0)))) (Zgc (Zbt ro_gt (r_cb Zjx (Zae (Zal 0) Za4)) (Zbq 10)))) (Zeh (r_bl false)) Zfd) (Zeh (Zkp (r_bm0 rc_str (rm_str Txt.isascii) (Zal 0)) (Zkp (r_bm0 rc_str (rm_str Txt.isalpha) (Zal 0)) (r_bm0 rc_str (rm_str Txt.islower) (Zal 0))))))
theorem Zmk : RF d_is_whole Zfm := Zfa (Zeh (Zkp (r_isT (Zal 0)) (r_not (r_isT (Zal 0)))))
noncomputable def Zgt : DFn := Ze8 1 (Zde (Zix (Zbs Zfm (Zaa (Zad 0) Zaf)) (Zap yEq (Zad 0) (x_c (.int 0)))))
theorem rf_is_zero : RF d_is_zero Zgt := Zfa (Zeh (Zkp (Zdq Zmk (Zae (Zal 0) Za4)) (Zbt ro_eq (Zal 0) (Zbq 0))))
noncomputable def Zio : DFn := Ze8 1 (Zde (x_or (Zbs Zfs (Zaa (Zad 0) Zaf)) (Zbs Zgt (Zaa (Zad 0) Zaf))))
theorem rf_is_end : RF d_is_end Zio := Zfa (Zeh (r_or (Zdq rf_is_name (Zae (Zal 0) Za4)) (Zdq rf_is_zero (Zae (Zal 0) Za4))))
noncomputable def Zgx : DFn := Ze8 1 (Zde (Zix (Zhm "tuple" (Zad 0)) (Zix (Zap yEq (x_cb yLen (Zaa (Zad 0) Zaf)) (x_c (.int 3))) (Zix (Zbs Zio (Zaa (Zap yIx (Zad 0) (x_c (.int 0))) Zaf)) (Zix (Zbs Zio (Zaa (Zap yIx (Zad 0) (x_c (.int 1))) Zaf)) (Zbs Zfm (Zaa (Zap yIx (Zad 0) (x_c (.int 2))) Zaf)))))))
theorem rf_is_fact : RF d_is_fact Zgx := Zfa (Zeh (Zkp (r_isT (Zal 0)) (Zkp (Zbt ro_eq (r_cb Zjx (Zae (Zal 0) Za4)) (Zbq 3)) (Zkp (Zdq rf_is_end (Zae (Zbt Ze5 (Zal 0) (Zbq 0)) Za4)) (Zkp (Zdq rf_is_end (Zae (Zbt Ze5 (Zal 0) (Zbq 1)) Za4)) (Zdq Zmk (Zae (Zbt Ze5 (Zal 0) (Zbq 2)) Za4)))))))
noncomputable def Zex : DFn := Ze8 2 (Zde (Zix (Zhm "list" (Zad 0)) (Zix (Zap yGt (x_cb yLen (Zaa (Zad 0) Zaf)) (x_c (.int 0))) (x_cb yAll (Zaa (x_lc (Zff (Zad 0)) (xg_n 1) Zfw (Zbs Zgx (Zaa (Zad 1) Zaf)) [1]) Zaf)))))
theorem Znl : RF d_is_conflict Zex := Zfa (Zeh (Zkp (r_isT (Zal 0)) (Zkp (Zbt ro_gt (r_cb Zjx (Zae (Zal 0) Za4)) (Zbq 0)) (r_cb rn_all (Zae (r_lc _ (Zi1 (Zal 0)) (rg_n 1) Zjz (Zdq rf_is_fact (Zae (Zal 1) Za4))) Za4)))))
noncomputable def Zc5 : DFn := Ze8 2 (Zde (Zix (Zle "list" [7] (Zad 0)) (x_cb yAll (Zaa (x_lc (Zff (Zad 0)) (xg_n 1) Zfw (Zbs Zex (Zaa (Zad 1) Zaf)) [1]) Zaf))))
theorem Zfi : RF d_are_conflicts Zc5 := Zfa (Zeh (Zkp (r_isTO (Zal 0)) (r_cb rn_all (Zae (r_lc _ (Zi1 (Zal 0)) (rg_n 1) Zjz (Zdq Znl (Zae (Zal 1) Za4))) Za4))))
noncomputable def Zc8 : DFn := Ze8 3 (Zar (Zf6 (Zf0 (Zf2 (Zbs Zc5 (Zaa (Zad 1) Zaf)))) Zmh Zei) (xs_fld 7 "_conflicts" (x_lc (Zff (Zad 1)) (xg_n 2) Zfw (x_cb Zjq (Zaa (Zad 2) Zaf)) [2]) (Zad 0)))
theorem Zgm : RF d_Claim_init Zc8 := Zfa (Zb9 (Zit (Zh9 (Zh2 (Zdq Zfi (Zae (Zal 1) Za4)))) rs_never Zfd) (rs_fld (r_lc _ (Zi1 (Zal 1)) (rg_n 2) Zjz (r_cb Zjg (Zae (Zal 2) Za4))) (Zal 0)))
noncomputable def Zb1 : DFn := dfnOfX 3 (Zar (Zf6 (Zf0 (Zf2 (Zbs Zc5 (Zaa (Zad 1) Zaf)))) (xs_raise 11 (Zaa (Zad 1) Zaf)) Zei) (xs_fld 7 "_conflicts" (x_lc (Zff (Zad 1)) (xg_n 2) Zfw (x_cb Zjq (Zaa (Zad 2) Zaf)) [2]) (Zad 0)))
theorem Zij : RF Ze2 Zb1 := rf_defX (Zb9 (Zit (Zh9 (Zh2 (Zdq Zfi (Zae (Zal 1) Za4)))) (rs_raise (Zae (Zal 1) Za4)) Zfd) (rs_fld (r_lc _ (Zi1 (Zal 1)) (rg_n 2) Zjz (r_cb Zjg (Zae (Zal 2) Za4))) (Zal 0)))
theorem hX_Claim (me w : W) (μ m : Mem) (h : d_are_conflicts [w] μ = .ok (.bl false) m) : Ze2 [me, w] μ = .exc 11 w m := by
  have e : (e_call d_are_conflicts (Zac (Zah 1) a_nil)) [some me, some w, none] μ = .ok (.bl false) m := h
  have e2 : (Zib (Zhz (e_call d_are_conflicts (Zac (Zah 1) a_nil)))) [some me, some w, none] μ = .ok true m := by
    unfold Zib Zhz
    rw [e]
    rfl
  unfold Ze2 fnOf
  show Rs.bind (Zcg (s_if _ _ _) _ [some me, some w, none] μ) _ = _
  unfold Zcg s_if
  rw [e2]
  rfl
noncomputable def Zdn : DFn := Ze8 3 (Zar (Zb4 (x_c .non) (xg_n 1)) (Zar (xs_tryX [11] 1 2 (x_mkB 7 0 Zb1 Zc5)) (Zar (Zf6 (Zf2 (Zhm "list" (Zad 0))) (Zm3 (x_bm isLT Zgg (Zad 0) (Zaa (x_c (.str "later")) Zaf))) Zei) (Zde (Zix (x_isX [11] 11 (Zad 1)) (Zap yEq (Ze6 (x_fldX 11 "value" (Zad 1))) (Ze6 (Zad 0))))))))
theorem Zig : RF d__law_refused Zdn := Zfa (Zb9 (Zeg r_non (rg_n 1)) (Zb9 (rs_tryX (r_mkB hX_Claim Zij Zfi)) (Zb9 (Zit (Zh2 (r_isT (Zal 0))) (rs_ex (r_bm rc_list Zjp (Zal 0) (Zae (Zf1 "later") Za4))) Zfd) (Zeh (Zkp (r_isX (Zal 1)) (Zbt ro_eq (Zhe (r_fldX (Zal 1))) (Zhe (Zal 0))))))))
theorem rf__law_purse : RF d__law_purse Zgq := rf_def1 (Zb9 (Zeg (r_cb rn_sum (Zae (r_sl (Zal 0) (Zha (Zal 1)) (Zha (Zbt Zer (Zal 1) (Zbq 1)))) Za4)) (rg_n 2)) (Zeh (r_lstC (Zae (Zbt Zm2 (r_cb rn_max (Zae (Zbt ro_sub (Zal 2) (Zbt ro_pow (Zbq 10) (Zbq 18))) (Zae (Zbq 0) Za4))) (Zbt ro_pow (Zbt ro_pow (Zbq 10) (Zbq 60)) (Zbq 8))) (Zae (Zbt Zm2 (Zal 2) (Zbq 2147483629)) (Zae (Zbt Zk8 (Zbq 1000) (Zal 1)) Za4))))))
theorem rf__law_mixed : RF d__law_mixed Zgp := Zfa (Zb9 (Zeg (Zbt Zm2 (Zbt Zer (Zbt Zer (Zbt Zk8 (Zal 0) (Zbq 69069)) (Zbt Zk8 (Zbt Zk8 (Zbq 104729) (Zal 1)) (Zal 1))) (Zal 1)) (Zbq 2147483647)) (rg_n 2)) (Zb9 (Zeg (Zbt Zm2 (Zbt Zer (Zbt Zk8 (Zal 2) (Zal 2)) (Zbq 40503)) (Zbq 2147483629)) (rg_n 2)) (Zeh (Zbt Zm2 (Zbt Zk8 (Zal 2) (Zbq 48271)) (Zbq 2147483587)))))
theorem Zda : RF d__law_draw Zba := Zfa (Zb9 (Zit (Zgc (Zbt ro_gt (Zbt Ze5 (Zal 0) (Zbq 0)) (Zbq 0))) (Zb9 (Zeg (Zbt Zm2 (Zbt Ze5 (Zal 0) (Zbq 0)) (Zal 1)) (rg_n 2)) (Zb9 (rs_setI (Zbt ro_div (Zbt Ze5 (Zal 0) (Zbq 0)) (Zal 1)) (Zal 0) (Zbq 0)) (Zeh (Zal 2)))) Zfd) (Zb9 (Zeg (Zbq 0) (rg_n 3)) (Zb9 (Zlg (Znd (Zbt Zer (Zbq 1) (Zbt ro_div (r_bits (Zal 1)) (Zbq 28)))) (rg_n 4) (Zb9 (rs_setI (Zbt Zer (Zbt Ze5 (Zal 0) (Zbq 2)) (Zbq 1)) (Zal 0) (Zbq 2)) (Zeg (Zbt Zer (Zbt Zk8 (Zal 3) (Zbq 2147483587)) (Zdq rf__law_mixed (Zae (Zbt Ze5 (Zal 0) (Zbq 1)) (Zae (Zbt Ze5 (Zal 0) (Zbq 2)) Za4)))) (rg_n 3)))) (Zeh (Zbt Zm2 (Zal 3) (Zal 1))))))
theorem rf__law_name : RF d__law_name Zgb := Zfa (Zb9 (Zeg (Zf1 "abcdefghijklmnopqrstuvwxyz") (rg_n 2)) (Zb9 (Zeg (Zbt Ze5 (Zal 2) (Zdq Zda (Zae (Zal 0) (Zae (Zbq 26) Za4)))) (rg_n 3)) (Zb9 (Zlg (Znd (Zbt Ze5 (Zgf (Zae (Zbq 0) (Zae (Zbq 0) (Zae (Zbq 1) (Zae (Zbq 9) Za4))))) (Zdq Zda (Zae (Zal 0) (Zae (Zbq 4) Za4))))) (rg_n 4) (Zeg (Zbt Zer (Zal 3) (Zbt Ze5 (Zal 2) (Zdq Zda (Zae (Zal 0) (Zae (Zbq 26) Za4))))) (rg_n 3))) (Zb9 (Zeg (Zgf (Zae (Zf1 "free") (Zae (Zf1 "sealed") (Zae (Zf1 "choice") (Zae (Zf1 "extend") (Zae (Zf1 "number") (Zae (Zf1 "plus") (Zae (Zf1 "max") (Zae (Zf1 "min") (Zae (Zf1 "if") (Zae (Zf1 "set") (Zae (Zf1 "case") (Zae (Zf1 "ring") Za4))))))))))))) (rg_n 5)) (Zb9 (Zeg (Zbt Ze5 (Zgf (Zae (Zal 3) (Zae (Zal 3) (Zae (Zal 3) (Zae (Zal 3) (Zae (Zbt Ze5 (Zal 5) (Zdq Zda (Zae (Zal 0) (Zae (Zbq 12) Za4)))) Za4)))))) (Zdq Zda (Zae (Zal 0) (Zae (Zbq 5) Za4)))) (rg_n 3)) (Zb9 (Zeg (Zbt Zer (Zgf (Zae (Zal 3) Za4)) (r_lc _ (ri_str (r_sl (Zal 2) (Zha (Zbq 13)) Zk4)) (rg_n 7) Zjz (Zbt Zer (Zal 7) (r_sl (Zal 3) Zk4 (Zha (Zbq 9)))))) (rg_n 6)) (Zeh (Zbt Ze5 (r_lc _ (Zi1 (Zal 6)) (rg_n 8) (Zgc (Zbt ro_in (Zal 8) (Zal 1))) (Zal 8)) (Zbq 0)))))))))
theorem Znn : RF d__law_number Ze0 := Zfa (Zb9 (Zeg (Zbt Ze5 (Zgf (Zae (Zbq 4) (Zae (Zbq 4) (Zae (Zbq 4) (Zae (Zbq 4) (Zae (Zbq 100) (Zae (Zbt ro_pow (Zbq 10) (Zbq 6)) (Zae (Zbt ro_pow (Zbq 10) (Zbq 38)) Za4)))))))) (Zdq Zda (Zae (Zal 0) (Zae (Zbq 7) Za4)))) (rg_n 1)) (Zeh (Zbt ro_sub (Zdq Zda (Zae (Zal 0) (Zae (Zbt Zer (Zbt Zk8 (Zbq 2) (Zal 1)) (Zbq 1)) Za4))) (Zal 1))))
noncomputable def Zfy : DFn := Ze8 8 (Zar (Zb4 (Zi3 Zaf) (xg_n 2)) (Zar (Zf3 (Zgu (Zbs Zba (Zaa (Zad 0) (Zaa (x_c (.int 3)) Zaf)))) (xg_n 3) (Zar (Zgz [0, 1, 2, 3, 4] (Zar (Zb4 (Zi3 Zaf) (xg_n 4)) (Zf3 (Zgu (Zap yAdd (x_c (.int 1)) (Zbs Zba (Zaa (Zad 0) (Zaa (x_c (.int 4)) Zaf))))) (xg_n 5) (Zar (Zmz 6 7 (Zaa (Zap yIx (Zad 1) (Zbs Zba (Zaa (Zad 0) (Zaa (x_cb yLen (Zaa (Zad 1) Zaf)) Zaf)))) (Zaa (Zap yIx (Zad 1) (Zbs Zba (Zaa (Zad 0) (Zaa (x_cb yLen (Zaa (Zad 1) Zaf)) Zaf)))) Zaf))) (Zm3 (x_bm isLT Zgg (Zad 4) (Zaa (Zep (Zaa (Zad 6) (Zaa (Zad 7) (Zaa (Zbs Ze0 (Zaa (Zad 0) Zaf)) Zaf)))) Zaf))))))) (Zm3 (x_bm isLT Zgg (Zad 2) (Zaa (Zad 4) Zaf))))) (Zde (Zad 2))))
theorem Zj4 : RF d__law_facts Zfy := Zfa (Zb9 (Zeg (r_lstC Za4) (rg_n 2)) (Zb9 (Zlg (Znd (Zdq Zda (Zae (Zal 0) (Zae (Zbq 3) Za4)))) (rg_n 3) (rs_assoc (Zb9 (rs_blkK (Zb9 (Zeg (r_lstC Za4) (rg_n 4)) (Zlg (Znd (Zbt Zer (Zbq 1) (Zdq Zda (Zae (Zal 0) (Zae (Zbq 4) Za4))))) (rg_n 5) (Zb9 (rs_par (Zae (Zbt Ze5 (Zal 1) (Zdq Zda (Zae (Zal 0) (Zae (r_cb Zjx (Zae (Zal 1) Za4)) Za4)))) (Zae (Zbt Ze5 (Zal 1) (Zdq Zda (Zae (Zal 0) (Zae (r_cb Zjx (Zae (Zal 1) Za4)) Za4)))) Za4))) (rs_ex (r_bm rc_list Zjp (Zal 4) (Zae (Zh0 (Zae (Zal 6) (Zae (Zal 7) (Zae (Zdq Znn (Zae (Zal 0) Za4)) Za4)))) Za4))))))) (rs_ex (r_bm rc_list Zjp (Zal 2) (Zae (Zal 4) Za4)))))) (Zeh (Zal 2))))
noncomputable def Zdx : DFn := Ze8 2 (Zde (x_lc (Zff (Zad 0)) (xg_n 1) Zfw (x_cb Zjq (Zaa (Zad 1) Zaf)) [1]))
theorem Zg7 : RF d__law_copied Zdx := Zfa (Zeh (r_lc _ (Zi1 (Zal 0)) (rg_n 1) Zjz (r_cb Zjg (Zae (Zal 1) Za4))))
noncomputable def Za5 : DFn := Ze8 2 (Zde (x_lc (Zff (Zln 7 "_conflicts" (Zad 0))) (xg_n 1) Zfw (x_cb Zjq (Zaa (Zad 1) Zaf)) [1]))
theorem Zc6 : RF d_Claim_conflicts Za5 := Zfa (Zeh (r_lc _ (Zi1 (r_fld (Zal 0))) (rg_n 1) Zjz (r_cb Zjg (Zae (Zal 1) Za4))))
noncomputable def Zcd : DFn := Ze8 2 (Zde (Zix (x_isI 7 (Zad 1)) (Zap yEq (Zln 7 "_conflicts" (Zad 0)) (Zln 7 "_conflicts" (Zad 1)))))
theorem Zf5 : RF d_Claim_eq Zcd := Zfa (Zeh (Zkp (r_isI (Zal 1)) (Zbt ro_eq (r_fld (Zal 0)) (r_fld (Zal 1)))))
noncomputable def Zfp : DFn := Ze8 1 (Zf6 (Zf0 (Zf2 (x_isI 7 (Zad 0)))) Zmh Zei)
theorem Zl1 : RF d_require_claim Zfp := Zfa (Zit (Zh9 (Zh2 (r_isI (Zal 0)))) rs_never Zfd)
noncomputable def Zew : DFn := Ze8 2 (Zar (Zm3 (Zbs Zfp (Zaa (Zad 1) Zaf))) (Zde (Zgs 7 Zc8 (Zaa (Zap yAdd (Zln 7 "_conflicts" (Zad 0)) (Zln 7 "_conflicts" (Zad 1))) Zaf))))
theorem Zg3 : RF d_Claim_and Zew := Zfa (Zb9 (rs_ex (Zdq Zl1 (Zae (Zal 1) Za4))) (Zeh (r_make Zgm (Zae (Zbt Zer (r_fld (Zal 0)) (r_fld (Zal 1))) Za4))))
noncomputable def Ze1 : DFn := Ze8 6 (Zar (Zb4 (x_oand 7 Zew (Zad 0) (Zad 1)) (xg_n 4)) (Zar (Zf6 (Zic (Zem (Zap yNe (Zgk 7 Za5 (Zad 4)) (Zap yAdd (Zad 2) (Zad 3)))) (Zem (Zap yNe (Ze6 (Zgk 7 Za5 (x_oand 7 Zew (Zad 1) (Zad 0)))) (Ze6 (Zap yAdd (Zad 3) (Zad 2)))))) (Zde (x_c (.bl false))) Zei) (Zar (Zf6 (Zem (Zap yNe (Ze6 (Zgk 7 Za5 (x_oand 7 Zew (Zad 4) (Zad 0)))) (Ze6 (Zap yAdd (Zap yAdd (Zad 2) (Zad 3)) (Zad 2))))) (Zde (x_c (.bl false))) Zei) (Zar (Zf6 (Zic (Zem (Zap yNe (Zgk 7 Za5 (Zad 0)) (Zad 2))) (Zic (Zem (Zap yNe (Zgk 7 Za5 (Zad 1)) (Zad 3))) (Zem (x_one 7 Zcd (Zad 4) (Zgs 7 Zc8 (Zaa (Zbs Zdx (Zaa (Zap yAdd (Zad 2) (Zad 3)) Zaf)) Zaf)))))) (Zde (x_c (.bl false))) Zei) (Zar (Zb4 (Zad 0) (xg_n 5)) (Zar (Zb4 (x_oand 7 Zew (Zad 0) (Zad 1)) (xg_n 0)) (Zar (Zf6 (Zic (Zem (Zap yNe (Zgk 7 Za5 (Zad 5)) (Zad 2))) (Zem (Zap yNe (Zgk 7 Za5 (Zad 0)) (Zap yAdd (Zad 2) (Zad 3))))) (Zde (x_c (.bl false))) Zei) (Zar (Zb4 (Zad 5) (xg_n 0)) (Zde (Zap yEq (Zns 7 Zcd (Zad 4) (Zad 0)) (Zap yEq (Zad 3) (Zej Zaf))))))))))))
theorem Znm : RF d__law_joined Ze1 := Zfa (Zb9 (Zeg (r_oand Zg3 (Zal 0) (Zal 1)) (rg_n 4)) (Zb9 (Zit (rt_or (Zgc (Zbt Znt (Zi4 Zc6 (Zal 4)) (Zbt Zer (Zal 2) (Zal 3)))) (Zgc (Zbt Znt (Zhe (Zi4 Zc6 (r_oand Zg3 (Zal 1) (Zal 0)))) (Zhe (Zbt Zer (Zal 3) (Zal 2)))))) (Zeh (r_bl false)) Zfd) (Zb9 (Zit (Zgc (Zbt Znt (Zhe (Zi4 Zc6 (r_oand Zg3 (Zal 4) (Zal 0)))) (Zhe (Zbt Zer (Zbt Zer (Zal 2) (Zal 3)) (Zal 2))))) (Zeh (r_bl false)) Zfd) (Zb9 (Zit (rt_or (Zgc (Zbt Znt (Zi4 Zc6 (Zal 0)) (Zal 2))) (rt_or (Zgc (Zbt Znt (Zi4 Zc6 (Zal 1)) (Zal 3))) (Zgc (r_one Zf5 (Zal 4) (r_make Zgm (Zae (Zdq Zg7 (Zae (Zbt Zer (Zal 2) (Zal 3)) Za4)) Za4)))))) (Zeh (r_bl false)) Zfd) (Zb9 (Zeg (Zal 0) (rg_n 5)) (Zb9 (Zeg (r_oand Zg3 (Zal 0) (Zal 1)) (rg_n 0)) (Zb9 (Zit (rt_or (Zgc (Zbt Znt (Zi4 Zc6 (Zal 5)) (Zal 2))) (Zgc (Zbt Znt (Zi4 Zc6 (Zal 0)) (Zbt Zer (Zal 2) (Zal 3))))) (Zeh (r_bl false)) Zfd) (Zb9 (Zeg (Zal 5) (rg_n 0)) (Zeh (Zbt ro_eq (r_oeq Zf5 (Zal 4) (Zal 0)) (Zbt ro_eq (Zal 3) (Zgf Za4))))))))))))
noncomputable def Zfj : DFn := Ze8 5 (Zar (Zb4 (Zap yIx (Zej (Zaa (x_c .non) (Zaa (x_c (.bl true)) (Zaa (x_c (.bl false)) (Zaa (x_c (.str "")) (Zaa (x_c (.str "A")) (Zaa (x_c (.str "abcdefghijk")) (Zaa (Zep Zaf) (Zaa (Zej Zaf) (Zaa (x_c (.int 1)) (Zaa (x_neg (x_c (.int 1))) (Zaa (Zep (Zaa (x_c (.int 0)) Zaf)) (Zaa Zi5 (Zaa (x_c (.str "a b")) Zaf)))))))))))))) (Zbs Zba (Zaa (Zad 0) (Zaa (x_c (.int 13)) Zaf)))) (xg_n 2)) (Zar (Zb4 (Zap yIx (Zej (Zaa (x_c .non) (Zaa (x_c (.bl true)) (Zaa (x_c (.bl false)) (Zaa (x_c (.str "")) (Zaa (x_c (.str "a")) (Zaa (Zep Zaf) (Zaa (Zej (Zaa (x_c (.int 1)) Zaf)) (Zaa Zi5 Zaf))))))))) (Zbs Zba (Zaa (Zad 0) (Zaa (x_c (.int 8)) Zaf)))) (xg_n 3)) (Zar (Zb4 (Zej (Zaa (Zep (Zaa (Zad 2) (Zaa (Zap yIx (Zad 1) (x_c (.int 1))) (Zaa (Zap yIx (Zad 1) (x_c (.int 2))) Zaf)))) (Zaa (Zep (Zaa (Zap yIx (Zad 1) (x_c (.int 0))) (Zaa (Zad 2) (Zaa (Zap yIx (Zad 1) (x_c (.int 2))) Zaf)))) (Zaa (Zep (Zaa (Zap yIx (Zad 1) (x_c (.int 0))) (Zaa (Zap yIx (Zad 1) (x_c (.int 1))) (Zaa (Zad 3) Zaf)))) (Zaa (x_sl (Zad 1) Ziv (Zft (x_c (.int 2)))) (Zaa (Zap yAdd (Zad 1) (Zep (Zaa (x_c (.int 0)) Zaf))) Zaf)))))) (xg_n 4)) (Zar (Zb4 (Zap yAdd (Zad 4) (Zej (Zaa (x_cb Zjq (Zaa (Zad 1) Zaf)) (Zaa (x_c .non) (Zaa (x_c (.int 0)) (Zaa (x_c (.str "a")) (Zaa (Zep (Zaa (Zad 1) Zaf)) (Zaa Zi5 (Zaa (Zep Zaf) (Zaa (Zep (Zaa (Zad 2) (Zaa (Zad 2) (Zaa (Zap yIx (Zad 1) (x_c (.int 2))) Zaf)))) (Zaa (Zep (Zaa (Zap yIx (Zad 1) (x_c (.int 0))) (Zaa (Zap yIx (Zad 1) (x_c (.int 1))) (Zaa (Zej (Zaa (Zap yIx (Zad 1) (x_c (.int 2))) Zaf)) Zaf)))) Zaf))))))))))) (xg_n 4)) (Zde (Zap yIx (Zad 4) (Zbs Zba (Zaa (Zad 0) (Zaa (x_cb yLen (Zaa (Zad 4) Zaf)) Zaf)))))))))
theorem Zlz : RF d__law_odd_fact Zfj := Zfa (Zb9 (Zeg (Zbt Ze5 (Zgf (Zae r_non (Zae (r_bl true) (Zae (r_bl false) (Zae (Zf1 "") (Zae (Zf1 "A") (Zae (Zf1 "abcdefghijk") (Zae (Zh0 Za4) (Zae (Zgf Za4) (Zae (Zbq 1) (Zae (r_neg (Zbq 1)) (Zae (Zh0 (Zae (Zbq 0) Za4)) (Zae r_dnew (Zae (Zf1 "a b") Za4)))))))))))))) (Zdq Zda (Zae (Zal 0) (Zae (Zbq 13) Za4)))) (rg_n 2)) (Zb9 (Zeg (Zbt Ze5 (Zgf (Zae r_non (Zae (r_bl true) (Zae (r_bl false) (Zae (Zf1 "") (Zae (Zf1 "a") (Zae (Zh0 Za4) (Zae (Zgf (Zae (Zbq 1) Za4)) (Zae r_dnew Za4))))))))) (Zdq Zda (Zae (Zal 0) (Zae (Zbq 8) Za4)))) (rg_n 3)) (Zb9 (Zeg (Zgf (Zae (Zh0 (Zae (Zal 2) (Zae (Zbt Ze5 (Zal 1) (Zbq 1)) (Zae (Zbt Ze5 (Zal 1) (Zbq 2)) Za4)))) (Zae (Zh0 (Zae (Zbt Ze5 (Zal 1) (Zbq 0)) (Zae (Zal 2) (Zae (Zbt Ze5 (Zal 1) (Zbq 2)) Za4)))) (Zae (Zh0 (Zae (Zbt Ze5 (Zal 1) (Zbq 0)) (Zae (Zbt Ze5 (Zal 1) (Zbq 1)) (Zae (Zal 3) Za4)))) (Zae (r_sl (Zal 1) Zk4 (Zha (Zbq 2))) (Zae (Zbt Zer (Zal 1) (Zh0 (Zae (Zbq 0) Za4))) Za4)))))) (rg_n 4)) (Zb9 (Zeg (Zbt Zer (Zal 4) (Zgf (Zae (r_cb Zjg (Zae (Zal 1) Za4)) (Zae r_non (Zae (Zbq 0) (Zae (Zf1 "a") (Zae (Zh0 (Zae (Zal 1) Za4)) (Zae r_dnew (Zae (Zh0 Za4) (Zae (Zh0 (Zae (Zal 2) (Zae (Zal 2) (Zae (Zbt Ze5 (Zal 1) (Zbq 2)) Za4)))) (Zae (Zh0 (Zae (Zbt Ze5 (Zal 1) (Zbq 0)) (Zae (Zbt Ze5 (Zal 1) (Zbq 1)) (Zae (Zgf (Zae (Zbt Ze5 (Zal 1) (Zbq 2)) Za4)) Za4)))) Za4))))))))))) (rg_n 4)) (Zeh (Zbt Ze5 (Zal 4) (Zdq Zda (Zae (Zal 0) (Zae (r_cb Zjx (Zae (Zal 4) Za4)) Za4)))))))))
noncomputable def Zey : DFn := dfnOfR 8 (Zar (Zb4 (Zej (Zaa (Zep (Zaa (x_c (.str "a")) (Zaa (x_c (.int 0)) (Zaa (x_c (.int 1)) Zaf)))) Zaf)) (xg_n 2)) (Zar (Zb4 (Zap yAdd (Zbs Zdx (Zaa (Zad 1) Zaf)) (Zej (Zaa (Zad 2) Zaf))) (xg_n 3)) (Zar (Zb4 (Zbs Zba (Zaa (Zad 0) (Zaa (x_cb yLen (Zaa (Zad 3) Zaf)) Zaf))) (xg_n 4)) (Zar (Zb4 (Zap yIx (Zad 3) (Zad 4)) (xg_n 5)) (Zar (Zb4 (Zbs Zba (Zaa (Zad 0) (Zaa (x_cb yLen (Zaa (Zad 5) Zaf)) Zaf))) (xg_n 6)) (Zar (Zb4 (Zej (Zaa (Zap yAdd (Zap yAdd (x_sl (Zad 5) Ziv (Zft (Zad 6))) (Zej (Zaa (Zbs Zfj (Zaa (Zad 0) (Zaa (Zap yIx (Zad 5) (Zad 6)) Zaf))) Zaf))) (x_sl (Zad 5) (Zft (Zap yAdd (Zad 6) (x_c (.int 1)))) Ziv)) (Zaa (Zej Zaf) (Zaa (x_cb yTuple (Zaa (Zad 5) Zaf)) (Zaa (x_c .non) (Zaa (Zap yIx (Zad 5) (x_c (.int 0))) Zaf)))))) (xg_n 7)) (Zar (Zb4 (Zap yAdd (Zad 7) (Zej (Zaa (x_c (.int 0)) (Zaa (x_c (.str "")) (Zaa (Zej (Zaa (Zad 5) Zaf)) Zaf))))) (xg_n 7)) (Zar (Zb4 (Zap yIx (Zad 7) (Zap yIx (Zej (Zaa (x_c (.int 0)) (Zaa (x_c (.int 0)) (Zaa (x_c (.int 0)) (Zaa (x_c (.int 0)) (Zaa (x_c (.int 1)) (Zaa (x_c (.int 2)) (Zaa (x_c (.int 3)) (Zaa (x_c (.int 4)) (Zaa (x_c (.int 5)) (Zaa (x_c (.int 6)) (Zaa (x_c (.int 7)) Zaf)))))))))))) (Zbs Zba (Zaa (Zad 0) (Zaa (x_c (.int 11)) Zaf))))) (xg_n 7)) (Zde (x_addC (Zap yAdd (x_sl (Zad 3) Ziv (Zft (Zad 4))) (Zej (Zaa (Zad 7) Zaf))) (x_sl (Zad 3) (Zft (Zap yAdd (Zad 4) (x_c (.int 1)))) Ziv)))))))))))
theorem Zly : RF d__law_spoilt Zey := rf_defR (Zb9 (Zeg (Zgf (Zae (Zh0 (Zae (Zf1 "a") (Zae (Zbq 0) (Zae (Zbq 1) Za4)))) Za4)) (rg_n 2)) (Zb9 (Zeg (Zbt Zer (Zdq Zg7 (Zae (Zal 1) Za4)) (Zgf (Zae (Zal 2) Za4))) (rg_n 3)) (Zb9 (Zeg (Zdq Zda (Zae (Zal 0) (Zae (r_cb Zjx (Zae (Zal 3) Za4)) Za4))) (rg_n 4)) (Zb9 (Zeg (Zbt Ze5 (Zal 3) (Zal 4)) (rg_n 5)) (Zb9 (Zeg (Zdq Zda (Zae (Zal 0) (Zae (r_cb Zjx (Zae (Zal 5) Za4)) Za4))) (rg_n 6)) (Zb9 (Zeg (Zgf (Zae (Zbt Zer (Zbt Zer (r_sl (Zal 5) Zk4 (Zha (Zal 6))) (Zgf (Zae (Zdq Zlz (Zae (Zal 0) (Zae (Zbt Ze5 (Zal 5) (Zal 6)) Za4))) Za4))) (r_sl (Zal 5) (Zha (Zbt Zer (Zal 6) (Zbq 1))) Zk4)) (Zae (Zgf Za4) (Zae (r_cb rn_tuple (Zae (Zal 5) Za4)) (Zae r_non (Zae (Zbt Ze5 (Zal 5) (Zbq 0)) Za4)))))) (rg_n 7)) (Zb9 (Zeg (Zbt Zer (Zal 7) (Zgf (Zae (Zbq 0) (Zae (Zf1 "") (Zae (Zgf (Zae (Zal 5) Za4)) Za4))))) (rg_n 7)) (Zb9 (Zeg (Zbt Ze5 (Zal 7) (Zbt Ze5 (Zgf (Zae (Zbq 0) (Zae (Zbq 0) (Zae (Zbq 0) (Zae (Zbq 0) (Zae (Zbq 1) (Zae (Zbq 2) (Zae (Zbq 3) (Zae (Zbq 4) (Zae (Zbq 5) (Zae (Zbq 6) (Zae (Zbq 7) Za4)))))))))))) (Zdq Zda (Zae (Zal 0) (Zae (Zbq 11) Za4))))) (rg_n 7)) (Zeh (r_addC (Zbt Zer (r_sl (Zal 3) Zk4 (Zha (Zal 4))) (Zgf (Zae (Zal 7) Za4))) (r_sl (Zal 3) (Zha (Zbt Zer (Zal 4) (Zbq 1))) Zk4)))))))))))
end Pr

namespace Pr
open PySem L2 Vs
/-! ### what is new in the memory -/
noncomputable def Zmt : W → Bool
  | .loc _ => false
  | _ => true
/-- all places that can be reached from w are L or later ones -/
noncomputable def DFr (L : Nat) (m : Mem) : Nat → W → Prop
  | 0, w => Zmt w = true
  | n + 1, w => (Zmt w = true ∨ ∃ l ws, w = .loc l ∧ m[l]? = some (.dic ws) ∧ ∀ y ∈ ws, Zmt y.2 = true) ∨ ∃ l, w = .loc l ∧ L ≤ l ∧ ((∃ ws, m[l]? = some (.lst ws) ∧ ∀ y ∈ ws, DFr L m n y) ∨ (∃ ws, m[l]? = some (.tup ws) ∧ ∀ y ∈ ws, DFr L m n y) ∨ (∃ i ws, m[l]? = some (.ins i ws) ∧ ∀ y ∈ ws, DFr L m n y.2))
theorem DFr.atom {L : Nat} {m : Mem} {w : W} (h : Zmt w = true) : ∀ n, DFr L m n w
  | 0 => h
  | _ + 1 => .inl (.inl h)
theorem DFr.keep {L L' : Nat} {m m' : Mem} (hL : L' ≤ L) (k : ∀ l o, (L ≤ l ∨ ∃ ws, o = .dic ws) → m[l]? = some o → m'[l]? = some o) : ∀ {n : Nat} {w : W}, DFr L m n w → DFr L' m' n w
  | 0, _, h => h
  | n + 1, w, h => by
    rcases h with h | ⟨l, rfl, hl, h⟩
    · refine .inl (h.imp id fun ⟨l, ws, e, a, z⟩ => ⟨l, ws, e, k l _ (.inr ⟨ws, rfl⟩) a, z⟩)
    · refine .inr ⟨l, rfl, Nat.le_trans hL hl, ?_⟩
      rcases h with ⟨ws, e, h⟩ | ⟨ws, e, h⟩ | ⟨i, ws, e, h⟩
      · exact .inl ⟨ws, k l _ (.inl hl) e, fun y hy => DFr.keep hL k (h y hy)⟩
      · exact .inr (.inl ⟨ws, k l _ (.inl hl) e, fun y hy => DFr.keep hL k (h y hy)⟩)
      · exact .inr (.inr ⟨i, ws, k l _ (.inl hl) e, fun y hy => DFr.keep hL k (h y hy)⟩)
theorem DFr.up {L : Nat} {m : Mem} : ∀ {n k : Nat} {w : W}, n ≤ k → DFr L m n w → DFr L m k w
  | 0, k, w, _, h => DFr.atom h k
  | n + 1, 0, w, hk, h => by omega
  | n + 1, k + 1, w, hk, h => by
    rcases h with h | ⟨l, rfl, hl, h⟩
    · exact .inl h
    · refine .inr ⟨l, rfl, hl, ?_⟩
      rcases h with ⟨ws, e, h⟩ | ⟨ws, e, h⟩ | ⟨i, ws, e, h⟩
      · exact .inl ⟨ws, e, fun y hy => DFr.up (by omega) (h y hy)⟩
      · exact .inr (.inl ⟨ws, e, fun y hy => DFr.up (by omega) (h y hy)⟩)
      · exact .inr (.inr ⟨i, ws, e, fun y hy => DFr.up (by omega) (h y hy)⟩)
section
variable {L : Nat} {c : List Nat} {m m' : Mem} (k : ∀ l o, (L ≤ l ∨ ∃ ws, o = .dic ws) → m[l]? = some o → m'[l]? = some o)
include k
theorem DFr.lst {n l : Nat} {ws : List W} (h : DFr L m n (.loc l)) (e : m[l]? = some (.lst ws)) : ∃ n', n = n' + 1 ∧ L ≤ l ∧ ∀ y ∈ ws, DFr L m n' y := by
  cases n with
  | zero => cases h
  | succ n =>
    rcases h with h | ⟨l', q, hl, h⟩
    · rcases h with h | ⟨_, _, z, a, _⟩
      · cases h
      · cases z; rw [e] at a; cases a
    · cases q
      refine ⟨n, rfl, hl, ?_⟩
      rcases h with ⟨ws', e', h⟩ | ⟨ws', e', h⟩ | ⟨i, ws', e', h⟩ <;> rw [e] at e' <;> cases e'
      exact h
theorem DFr.tup {n l : Nat} {ws : List W} (h : DFr L m n (.loc l)) (e : m[l]? = some (.tup ws)) : ∃ n', n = n' + 1 ∧ L ≤ l ∧ ∀ y ∈ ws, DFr L m n' y := by
  cases n with
  | zero => cases h
  | succ n =>
    rcases h with h | ⟨l', q, hl, h⟩
    · rcases h with h | ⟨_, _, z, a, _⟩
      · cases h
      · cases z; rw [e] at a; cases a
    · cases q
      refine ⟨n, rfl, hl, ?_⟩
      rcases h with ⟨ws', e', h⟩ | ⟨ws', e', h⟩ | ⟨i, ws', e', h⟩ <;> rw [e] at e' <;> cases e'
      exact h
theorem DFr.dic {n l : Nat} {ws : List (Key × W)} (h : DFr L m n (.loc l)) (e : m[l]? = some (.dic ws)) : ∀ y ∈ ws, Zmt y.2 = true := by
  cases n with
  | zero => cases h
  | succ n =>
    rcases h with h | ⟨l', q, hl, h⟩
    · rcases h with h | ⟨_, _, z, a, h⟩
      · cases h
      · cases z; rw [e] at a; cases a; exact h
    · cases q
      rcases h with ⟨ws', e', h⟩ | ⟨ws', e', h⟩ | ⟨i, ws', e', h⟩ <;> rw [e] at e' <;> cases e'
theorem DFr.ins {n l i : Nat} {ws : List (Str × W)} (h : DFr L m n (.loc l)) (e : m[l]? = some (.ins i ws)) : ∃ n', n = n' + 1 ∧ L ≤ l ∧ ∀ y ∈ ws, DFr L m n' y.2 := by
  cases n with
  | zero => cases h
  | succ n =>
    rcases h with h | ⟨l', q, hl, h⟩
    · rcases h with h | ⟨_, _, z, a, _⟩
      · cases h
      · cases z; rw [e] at a; cases a
    · cases q
      refine ⟨n, rfl, hl, ?_⟩
      rcases h with ⟨ws', e', h⟩ | ⟨ws', e', h⟩ | ⟨i, ws', e', h⟩ <;> rw [e] at e' <;> cases e'
      exact h
mutual
theorem Dt.keepF : ∀ {t : T} {w : W} {n : Nat}, Dt none c m t w → DFr L m n w → Dt none c m' t w
  | .non, _, _, h, _ => by unfold Dt at h ⊢; exact h
  | .bl _, _, _, h, _ => by unfold Dt at h ⊢; exact h
  | .int _, _, _, h, _ => by unfold Dt at h ⊢; exact h
  | .str _, _, _, h, _ => by unfold Dt at h ⊢; exact h
  | .cell _, _, _, h, _ => by unfold Dt at h ⊢; exact h
  | .lst ts, _, n, h, f => by
    unfold Dt at h ⊢
    obtain ⟨l, ws, rfl, nc, a, r⟩ := h
    obtain ⟨n', rfl, hl, f⟩ := DFr.lst k f a
    exact ⟨l, ws, rfl, nc, k l _ (.inl hl) a, DtL.keepF r f⟩
  | .tup ts, _, n, h, f => by
    unfold Dt at h ⊢
    obtain ⟨l, ws, rfl, nc, a, r⟩ := h
    obtain ⟨n', rfl, hl, f⟩ := DFr.tup k f a
    exact ⟨l, ws, rfl, nc, k l _ (.inl hl) a, DtL.keepF r f⟩
  | .dic ts, _, n, h, f => by
    unfold Dt at h ⊢
    obtain ⟨l, ws, rfl, nc, a, r⟩ := h
    rcases a with a | ⟨a, _⟩
    · have f := DFr.dic k f a
      exact ⟨l, ws, rfl, nc, .inl (k l _ (.inr ⟨ws, rfl⟩) a), DtK.keepF (n := 0) r f⟩
    · cases a
  | .ins i ts, _, n, h, f => by
    unfold Dt at h ⊢
    obtain ⟨l, ws, rfl, nc, a, r⟩ := h
    obtain ⟨n', rfl, hl, f⟩ := DFr.ins k f a
    exact ⟨l, ws, rfl, nc, k l _ (.inl hl) a, DtF.keepF r f⟩
  | .exn i t, _, n, h, f => by
    unfold Dt at h
    obtain ⟨l, dl, fx, v, rfl, _, _, a, _, _⟩ := h
    cases n with
    | zero => cases f
    | succ n =>
      rcases f with h | ⟨l', q, hl, h⟩
      · rcases h with h | ⟨_, _, z, e', _⟩
        · cases h
        · cases z; rw [a] at e'; cases e'
      · cases q
        rcases h with ⟨ws', e', h⟩ | ⟨ws', e', h⟩ | ⟨i, ws', e', h⟩ <;> rw [a] at e' <;> cases e'
theorem DtL.keepF : ∀ {t : List T} {w : List W} {n : Nat}, DtL none c m t w → (∀ y ∈ w, DFr L m n y) → DtL none c m' t w
  | [], _, _, h, _ => by unfold DtL at h ⊢; exact h
  | t :: ts, _, n, h, f => by
    unfold DtL at h ⊢
    obtain ⟨v, vs, rfl, a, b⟩ := h
    exact ⟨v, vs, rfl, Dt.keepF a (f v List.mem_cons_self), DtL.keepF b fun y hy => f y (List.mem_cons_of_mem _ hy)⟩
theorem DtK.keepF : ∀ {t : List (Key × T)} {w : List (Key × W)} {n : Nat}, DtK none c m t w → (∀ y ∈ w, DFr L m n y.2) → DtK none c m' t w
  | [], _, _, h, _ => by unfold DtK at h ⊢; exact h
  | (kk, t) :: ts, _, n, h, f => by
    unfold DtK at h ⊢
    obtain ⟨v, vs, rfl, a, b⟩ := h
    exact ⟨v, vs, rfl, Dt.keepF a (f (kk, v) List.mem_cons_self), DtK.keepF b fun y hy => f y (List.mem_cons_of_mem _ hy)⟩
theorem DtF.keepF : ∀ {t : List (Str × T)} {w : List (Str × W)} {n : Nat}, DtF none c m t w → (∀ y ∈ w, DFr L m n y.2) → DtF none c m' t w
  | [], _, _, h, _ => by unfold DtF at h ⊢; exact h
  | (kk, t) :: ts, _, n, h, f => by
    unfold DtF at h ⊢
    obtain ⟨v, vs, rfl, a, b⟩ := h
    exact ⟨v, vs, rfl, Dt.keepF a (f (kk, v) List.mem_cons_self), DtF.keepF b fun y hy => f y (List.mem_cons_of_mem _ hy)⟩
end
end
/-! ### what only adds to the memory -/
noncomputable def App (m m' : Mem) : Prop := m.length ≤ m'.length ∧ ∀ l, l < m.length → m'[l]? = m[l]?
theorem App.refl (m : Mem) : App m m := ⟨Nat.le_refl _, fun _ _ => rfl⟩
theorem App.trans {a b c : Mem} (h : App a b) (h' : App b c) : App a c := ⟨Nat.le_trans h.1 h'.1, fun l hl => (h'.2 l (Nat.lt_of_lt_of_le hl h.1)).trans (h.2 l hl)⟩
theorem App.push (m e : Mem) : App m (m ++ e) := ⟨by simp, fun l hl => List.getElem?_append_left hl⟩
theorem App.get {m m' : Mem} (h : App m m') {l : Nat} {o : O} (e : m[l]? = some o) : m'[l]? = some o := (h.2 l (Zdf e)).trans e
end Pr
namespace Pr
open PySem L2 Vs
/-! ### copies are new -/
theorem Zdg {α β : Type} (a : α) (m : Mem) (k : α → Mem → Rs β) : (Rs.ok a m).bind k = k a m := rfl
theorem Zjt {σ : En} {μ : Mem} {i : Nat} {w : W} (h : σ[i]? = some (some w)) : Zah i σ μ = .ok w μ := by unfold Zah; rw [h]
/-- an atom or a list of atoms -/
noncomputable def FlW (μ : Mem) (x : W) : Prop := Zmt x = true ∨ ∃ l xs, x = .loc l ∧ μ[l]? = some (.lst xs) ∧ ∀ z ∈ xs, Zmt z = true
end Pr
namespace Pr
open PySem L2 Vs
/-! ### settings in the memory, and copies of them -/
noncomputable def FlB (D : Nat) (μ : Mem) (x : W) : Prop := Zmt x = true ∨ ∃ l xs, x = .loc l ∧ l < D ∧ μ[l]? = some (.lst xs) ∧ ∀ z ∈ xs, Zmt z = true
structure SeA (D : Nat) (μ : Mem) (x : W) (l : Nat) (a : W) (lp ld : Nat) (ps ds : List W) : Prop where
  eq : x = .loc l
  lt : l < D
  at_ : μ[l]? = some (.tup [a, .loc lp, .loc ld])
  at1 : Zmt a = true
  ltp : lp < D
  atp : μ[lp]? = some (.tup ps)
  ltd : ld < D
  atd : μ[ld]? = some (.tup ds)
  flp : ∀ y ∈ ps, FlB D μ y
  fld : ∀ y ∈ ds, FlB D μ y
noncomputable def SeW (D : Nat) (μ : Mem) (x : W) : Prop := ∃ l a lp ld ps ds, SeA D μ x l a lp ld ps ds
theorem FlB.keep {D : Nat} {μ μ' : Mem} (k : ∀ l, l < D → μ'[l]? = μ[l]?) {x : W} (h : FlB D μ x) : FlB D μ' x := h.imp id fun ⟨l, xs, e, hl, ha, hz⟩ => ⟨l, xs, e, hl, (k l hl).trans ha, hz⟩
theorem SeA.keep {D : Nat} {μ μ' : Mem} (k : ∀ l, l < D → μ'[l]? = μ[l]?) {x a : W} {l lp ld : Nat} {ps ds : List W} (h : SeA D μ x l a lp ld ps ds) : SeA D μ' x l a lp ld ps ds :=
  ⟨h.eq, h.lt, (k l h.lt).trans h.at_, h.at1, h.ltp, (k lp h.ltp).trans h.atp, h.ltd, (k ld h.ltd).trans h.atd, fun y hy => (h.flp y hy).keep k, fun y hy => (h.fld y hy).keep k⟩
theorem SeW.keep {D : Nat} {μ μ' : Mem} (k : ∀ l, l < D → μ'[l]? = μ[l]?) {x : W} (h : SeW D μ x) : SeW D μ' x := by
  obtain ⟨l, a, lp, ld, ps, ds, h⟩ := h
  exact ⟨l, a, lp, ld, ps, ds, h.keep k⟩
theorem FlB.fl {D : Nat} {μ : Mem} {x : W} (h : FlB D μ x) : FlW μ x := h.imp id fun ⟨l, xs, e, _, ha, hz⟩ => ⟨l, xs, e, ha, hz⟩
end Pr
namespace Pr
open PySem L2 Vs
/-! ### lists that are emptied -/
noncomputable abbrev clB : SM := s_if (Zhz (Zny "list" (Zah 4))) (s_ex (e_bm0 isL mClear (Zah 4))) Ze4
noncomputable abbrev inB : SM := Ziu (Zhd (Za2 pAdd (e_sl pSl (Za2 pIx (Zah 3) (e_c (.int 1))) (Zjr (e_c (.int 1))) o_no) (e_sl pSl (Za2 pIx (Zah 3) (e_c (.int 2))) (Zjr (e_c (.int 1))) o_no))) (g_n 4) clB
/-- the memory, but for lists of atoms that are emptied -/
structure Ch (L D lg : Nat) (m μ : Mem) : Prop where
  len : m.length ≤ μ.length
  get : ∀ l o, m[l]? = some o → μ[l]? = some o ∨ (L ≤ l ∧ l < D ∧ l ≠ lg ∧ ∃ xs, o = .lst xs ∧ (∀ z ∈ xs, Zmt z = true) ∧ μ[l]? = some (.lst []))
theorem Ch.refl (L D lg : Nat) (m : Mem) : Ch L D lg m m := ⟨Nat.le_refl _, fun _ _ h => .inl h⟩
theorem Ch.app {L D lg : Nat} {m μ μ' : Mem} (h : Ch L D lg m μ) (a : App μ μ') : Ch L D lg m μ' :=
  ⟨Nat.le_trans h.len a.1, fun l o e => (h.get l o e).imp (fun q => a.get q) fun ⟨h1, h2, h3, xs, h4, h5, h6⟩ => ⟨h1, h2, h3, xs, h4, h5, a.get h6⟩⟩
theorem Ch.tup {L D lg : Nat} {m μ : Mem} (h : Ch L D lg m μ) {l : Nat} {ws : List W} (e : m[l]? = some (.tup ws)) : μ[l]? = some (.tup ws) := by
  rcases h.get l _ e with q | ⟨_, _, _, xs, z, _⟩
  · exact q
  · cases z
end Pr
namespace Pr
open PySem L2 Vs
theorem co_nil (μ : Mem) : CO none [] μ [] := ⟨rfl, List.nodup_nil, fun k l o a b => nomatch a⟩
theorem Zj7 : PureS ([] : Sd) := fun o h => nomatch h
theorem nx_app {μ m : Mem} (h : App μ m) : Nx [] μ [] m := ⟨⟨[], rfl, fun l hl => nomatch hl⟩, fun l o _ e => h.get e, h.1⟩
theorem app_nx {c' : List Nat} {μ m : Mem} (h : Nx [] μ c' m) : App μ m := ⟨h.len, fun l hl => by
  have e : μ[l]? = some μ[l] := List.getElem?_eq_getElem hl
  rw [e]
  exact h.kp l _ (fun z => nomatch z) e⟩
theorem dt_app {μ m : Mem} (h : App μ m) {t : T} {w : W} (d : Dt none [] μ t w) : Dt none [] m t w := Dt.mono (nx_app h) d
theorem Zi9 {a b : SM} {σ σ1 : En} {μ μ1 : Mem} (h : a σ μ = .ok (.nx σ1) μ1) : Zcg a b σ μ = b σ1 μ1 := by
  unfold Zcg
  rw [h, Zdg]
theorem Zf9 {α β : Type} {r : Rs α} {k : α → Mem → Rs β} {b : β} {m : Mem} (h : r.bind k = .ok b m) : ∃ a m1, r = .ok a m1 ∧ k a m1 = .ok b m := by
  cases r with
  | ok a m1 => exact ⟨a, m1, rfl, h⟩
  | exc a b c => cases h
  | bad => cases h
theorem Zhf {x : EM} {r : AM} {σ : En} {μ μ1 μ2 : Mem} {w : W} {ws : List W} (hx : x σ μ = .ok w μ1) (hr : r σ μ1 = .ok ws μ2) : Zac x r σ μ = .ok (w :: ws) μ2 := by
  unfold Zac
  rw [hx, Zdg, hr, Zdg]
theorem et_run {a : AM} {σ : En} {μ μ1 : Mem} {ws : List W} (ha : a σ μ = .ok ws μ1) (hl : ws.length ≤ LIM) : Zgh a σ μ = .ok (.loc μ1.length) (μ1 ++ [.tup ws]) := by
  unfold Zgh
  rw [ha, Zdg, if_pos hl]
theorem sd_at {c : List Nat} {μ : Mem} : ∀ {σ : En} {δ : Ed} {i : Nat} {t : T}, SD none c μ σ δ → δ[i]? = some (some t) → ∃ w, σ[i]? = some (some w) ∧ Dt none c μ t w
  | _, _, 0, t, .cons q z, h => by
    simp only [List.getElem?_cons_zero, Option.some.injEq] at h
    subst h
    obtain ⟨v, rfl, d⟩ := q
    exact ⟨v, rfl, d⟩
  | _, _, n + 1, t, .cons q z, h => by
    simp only [List.getElem?_cons_succ] at h ⊢
    exact sd_at z h
  | _, _, _, _, .nil, h => by simp at h
theorem rr_pre {α β : Type} {Q : List Nat → Mem → β → α → Prop} {c c' : List Nat} {μ m : Mem} {r : Rs α} {d : Rd β} (x : Nx c μ c' m) (h : RR none Q c' m r d) : RR none Q c μ r d := by
  cases d with
  | bad => exact True.intro
  | exc n t s =>
    obtain ⟨w, m2, c2, e, x2, o, q⟩ := h
    exact ⟨w, m2, c2, e, x.trans x2, o, q⟩
  | ok b s =>
    obtain ⟨w, m2, c2, e, x2, o, q⟩ := h
    exact ⟨w, m2, c2, e, x.trans x2, o, q⟩
theorem dtl_len {c : List Nat} {μ : Mem} : ∀ {ts : List T} {ws : List W}, DtL none c μ ts ws → ws.length = ts.length
  | [], ws, h => by unfold DtL at h; rw [h]; rfl
  | t :: ts, ws, h => by
    unfold DtL at h
    obtain ⟨v, vs, rfl, _, b⟩ := h
    rw [List.length_cons, List.length_cons, dtl_len b]
theorem dtl_of {lk : Option Nat} {c c' : List Nat} {μ μ' : Mem} : ∀ {ts : List T} {ws : List W}, (∀ t ∈ ts, ∀ w, Dt lk c μ t w → Dt lk c' μ' t w) → DtL lk c μ ts ws → DtL lk c' μ' ts ws
  | [], ws, _, h => by unfold DtL at h ⊢; exact h
  | t :: ts, ws, k, h => by
    unfold DtL at h ⊢
    obtain ⟨v, vs, rfl, a, b⟩ := h
    exact ⟨v, vs, rfl, k t List.mem_cons_self v a, dtl_of (fun u hu => k u (List.mem_cons_of_mem _ hu)) b⟩
theorem dtk_of {lk : Option Nat} {c c' : List Nat} {μ μ' : Mem} : ∀ {ts : List (Key × T)} {ws : List (Key × W)}, (∀ t ∈ ts, ∀ w, Dt lk c μ t.2 w → Dt lk c' μ' t.2 w) → DtK lk c μ ts ws → DtK lk c' μ' ts ws
  | [], ws, _, h => by unfold DtK at h ⊢; exact h
  | (k', t) :: ts, ws, k, h => by
    unfold DtK at h ⊢
    obtain ⟨v, vs, rfl, a, b⟩ := h
    exact ⟨v, vs, rfl, k (k', t) List.mem_cons_self v a, dtk_of (fun u hu => k u (List.mem_cons_of_mem _ hu)) b⟩
theorem dtf_of {lk : Option Nat} {c c' : List Nat} {μ μ' : Mem} : ∀ {ts : List (Str × T)} {ws : List (Str × W)}, (∀ t ∈ ts, ∀ w, Dt lk c μ t.2 w → Dt lk c' μ' t.2 w) → DtF lk c μ ts ws → DtF lk c' μ' ts ws
  | [], ws, _, h => by unfold DtF at h ⊢; exact h
  | (k', t) :: ts, ws, k, h => by
    unfold DtF at h ⊢
    obtain ⟨v, vs, rfl, a, b⟩ := h
    exact ⟨v, vs, rfl, k (k', t) List.mem_cons_self v a, dtf_of (fun u hu => k u (List.mem_cons_of_mem _ hu)) b⟩
theorem dt_nilP {c : List Nat} {μ : Mem} : ∀ (n : Nat) {t : T} {w : W}, pure? n t = true → Dt none c μ t w → Dt none [] μ t w := by
  intro n
  induction n with
  | zero =>
    intro t w p d
    cases t <;> first | (unfold Dt at d ⊢; exact d) | cases p
  | succ n ih =>
    intro t w p d
    cases t with
    | non => unfold Dt at d ⊢; exact d
    | bl b => unfold Dt at d ⊢; exact d
    | int b => unfold Dt at d ⊢; exact d
    | str b => unfold Dt at d ⊢; exact d
    | lst ts =>
      have p := List.all_eq_true.mp (show ts.all (pure? n) = true from p)
      unfold Dt at d ⊢
      obtain ⟨l, ws, rfl, _, a, r⟩ := d
      exact ⟨l, ws, rfl, (fun z => nomatch z), a, dtl_of (fun t ht w h => ih (p t ht) h) r⟩
    | tup ts =>
      have p := List.all_eq_true.mp (show ts.all (pure? n) = true from p)
      unfold Dt at d ⊢
      obtain ⟨l, ws, rfl, _, a, r⟩ := d
      exact ⟨l, ws, rfl, (fun z => nomatch z), a, dtl_of (fun t ht w h => ih (p t ht) h) r⟩
    | dic ts =>
      have p := List.all_eq_true.mp (show (ts.all fun q => pure? n q.2) = true from p)
      unfold Dt at d ⊢
      obtain ⟨l, ws, rfl, _, a, r⟩ := d
      exact ⟨l, ws, rfl, (fun z => nomatch z), a, dtk_of (fun t ht w h => ih (p t ht) h) r⟩
    | ins i ts =>
      have p := List.all_eq_true.mp (show (ts.all fun q => pure? n q.2) = true from p)
      unfold Dt at d ⊢
      obtain ⟨l, ws, rfl, _, a, r⟩ := d
      exact ⟨l, ws, rfl, (fun z => nomatch z), a, dtf_of (fun t ht w h => ih (p t ht) h) r⟩
    | cell k => cases p
    | exn a b => cases p
theorem co_app {c : List Nat} {μ m : Mem} {s : Sd} (co : CO none c μ s) (ap : App μ m) : Nx c μ c m ∧ CO none c m s := by
  have nx : Nx c μ c m := ⟨⟨[], by simp, fun _ h => nomatch h⟩, fun k o _ e => ap.get e, ap.1⟩
  exact ⟨nx, co.mono nx fun l hl => ap.2 l (co.low hl)⟩
end Pr
namespace Pr
open PySem L2 Vs
/-! ### runs that change nothing old -/
noncomputable def ApE {α : Type} (r : En → Mem → Rs α) : Prop := ∀ σ μ a m, r σ μ = .ok a m → App μ m
theorem apo_map {α β : Type} {o : Option α} {k : α → β} {b : β} (h : o.map k = some b) : ∃ a, o = some a ∧ k a = b := by
  cases o with
  | none => cases h
  | some a => cases h; exact ⟨a, rfl, rfl⟩
section
theorem ap_var {i : Nat} : ApE (Zah i) := fun σ μ a m h => by
  unfold Zah at h
  split at h
  · cases h; exact App.refl _
  · cases h
theorem ap_nil : ApE a_nil := fun σ μ w m h => by unfold a_nil at h; cases h; exact App.refl _
theorem ap_cons {a : EM} {r : AM} (ha : ApE a) (hr : ApE r) : ApE (Zac a r) := fun σ μ w m h => by
  unfold Zac at h
  obtain ⟨x, m1, q1, h⟩ := Zf9 h
  obtain ⟨y, m2, q2, h⟩ := Zf9 h
  cases h
  exact (ha _ _ _ _ q1).trans (hr _ _ _ _ q2)
theorem at_yes : ApE Zj6 := fun σ μ w m h => by unfold Zj6 at h; cases h; exact App.refl _
theorem ai_seq {a : EM} (ha : ApE a) : ApE (Zhd a) := fun σ μ w m h => by
  unfold Zhd at h
  obtain ⟨x, m1, q1, h⟩ := Zf9 h
  have l1 := ha _ _ _ _ q1
  split at h
  · cases h; exact l1
  · split at h
    · cases h; exact l1
    · cases h
theorem itm_ap {it : ItD} {i : Nat} {x : W} {μ : Mem} : App μ (itm it i x μ).2 := by
  unfold itm
  split
  · exact App.push _ _
  · exact App.refl _
/-- the items of a new list: all new, all different -/
noncomputable def DisL (d : Nat) (ks : List Nat) (m : Mem) : Prop := m[d]? = some (.lst (ks.map W.loc)) ∧ (d :: ks).Nodup ∧ ∀ k ∈ d :: ks, k < m.length
/-- keeps what lies below d -/
noncomputable def LoD (d : Nat) (μ m : Mem) : Prop := μ.length ≤ m.length ∧ ∀ l, l < d → m[l]? = μ[l]?
theorem LoD.refl (d : Nat) (μ : Mem) : LoD d μ μ := ⟨Nat.le_refl _, fun _ _ => rfl⟩
theorem LoD.trans {d : Nat} {a b c : Mem} (h : LoD d a b) (h' : LoD d b c) : LoD d a c := ⟨Nat.le_trans h.1 h'.1, fun l hl => (h'.2 l hl).trans (h.2 l hl)⟩
theorem App.lo {d : Nat} {μ m : Mem} (h : App μ m) (hd : d ≤ μ.length) : LoD d μ m := ⟨h.1, fun l hl => h.2 l (Nat.lt_of_lt_of_le hl hd)⟩
theorem lo_set {d : Nat} {μ : Mem} {o : O} : LoD d μ (μ.set d o) := ⟨by rw [List.length_set]; exact Nat.le_refl _, fun l hl => List.getElem?_set_ne (by omega)⟩
theorem compL_lo {it : ItD} {g : GM} {t : TM} {e : EM} {σ : En} {d : Nat} (ht : ApE t) (he : ApE e) : ∀ (xs : List W) (i : Nat) (μ : Mem) (w : W) (m : Mem), d < μ.length → Zhp it g t e σ d i xs μ = .ok w m → LoD d μ m ∧ w = .loc d
  | [], i, μ, w, m, hl, h => by
    unfold Zhp at h
    split at h
    · cases h; exact ⟨LoD.refl _ _, rfl⟩
    · cases h
  | x :: xs, i, μ, w, m, hl, h => by
    unfold Zhp at h
    split at h
    · split at h
      · obtain ⟨c, m1, q1, h⟩ := Zf9 h
        have l0 : App μ m1 := itm_ap.trans (ht _ _ _ _ q1)
        have l1 : LoD d μ m1 := l0.lo (Nat.le_of_lt hl)
        have h1 : d < m1.length := Nat.lt_of_lt_of_le hl l0.1
        split at h
        · obtain ⟨y, m2, q2, h⟩ := Zf9 h
          have l2 := he _ _ _ _ q2
          split at h
          · split at h
            · obtain ⟨r1, r2⟩ := compL_lo ht he xs (i + 1) _ w m (by rw [List.length_set]; exact Nat.lt_of_lt_of_le h1 l2.1) h
              exact ⟨l1.trans ((l2.lo (Nat.le_of_lt h1)).trans (lo_set.trans r1)), r2⟩
            · cases h
          · cases h
        · obtain ⟨r1, r2⟩ := compL_lo ht he xs (i + 1) _ w m h1 h
          exact ⟨l1.trans r1, r2⟩
      · cases h
    · cases h
theorem LoD.app {μ m : Mem} {o : O} (h : LoD μ.length (μ ++ [o]) m) : App μ m := ⟨by have := h.1; rw [List.length_append] at this; omega, fun l hl => by rw [h.2 l hl, List.getElem?_append_left hl]⟩
/-- a value that is a new list -/
noncomputable def NvA (e : EM) : Prop := ∀ σ μ w m, e σ μ = .ok w m → ∃ l xs, w = .loc l ∧ μ.length ≤ l ∧ m[l]? = some (.lst xs)
end
end Pr
namespace Pr
open PySem L2 Vs
/-! ### alternatives: facts and terms -/
structure Tm where
  e : Option Str
  n : Int
structure Fc where
  a : Option Str
  b : Option Str
  k : Int
noncomputable def enT : Option Str → T
  | some x => .str x
  | none => .int 0
noncomputable def Tm.t (a : Tm) : T := .tup [enT a.e, .int a.n]
noncomputable def Fc.t (f : Fc) : T := .tup [enT f.a, enT f.b, .int f.k]
noncomputable def fsT (fs : List Fc) : T := .lst (fs.map Fc.t)
theorem enT_pure (e : Option Str) (n : Nat) : pure? n (enT e) = true := by cases e <;> cases n <;> rfl
theorem Tm.pure (a : Tm) : pure? 2 a.t = true := by
  show ([enT a.e, T.int a.n].all (pure? 1)) = true
  simp only [List.all_cons, List.all_nil, Bool.and_true, Bool.and_eq_true]
  exact ⟨enT_pure _ 1, rfl⟩
theorem Fc.pure (f : Fc) : pure? 2 f.t = true := by
  show ([enT f.a, enT f.b, T.int f.k].all (pure? 1)) = true
  simp only [List.all_cons, List.all_nil, Bool.and_true, Bool.and_eq_true]
  exact ⟨enT_pure _ 1, enT_pure _ 1, rfl⟩
theorem Zhq (fs : List Fc) : pure? 3 (fsT fs) = true := List.all_eq_true.mpr fun t ht => by
  obtain ⟨f, _, rfl⟩ := List.mem_map.mp ht
  exact Fc.pure f
end Pr
namespace Pr
open PySem L2 Vs
/-! ### what alternatives returns: a new list of new lists -/
noncomputable def FrA (μ m : Mem) (w : W) : Prop := ∃ l ks, w = .loc l ∧ DisL l ks m ∧ ∀ k ∈ l :: ks, μ.length ≤ k
noncomputable def FvA (e : EM) : Prop := ∀ σ μ w m, e σ μ = .ok w m → FrA μ m w
theorem DisL.app {d : Nat} {ks : List Nat} {μ m : Mem} (h : DisL d ks μ) (a : App μ m) : DisL d ks m := ⟨a.get h.1, h.2.1, fun k hk => Nat.lt_of_lt_of_le (h.2.2 k hk) a.1⟩
theorem DisL.snoc {d l : Nat} {ks : List Nat} {m : Mem} (h : DisL d ks m) (hl : l < m.length) (hn : l ∉ d :: ks) : DisL d (ks ++ [l]) (m.set d (.lst (ks.map W.loc ++ [.loc l]))) := by
  refine ⟨?_, ?_, fun k hk => ?_⟩
  · rw [List.getElem?_set_self (Zdf h.1), List.map_append]; rfl
  · show (d :: (ks ++ [l])).Nodup
    rw [← List.cons_append]
    exact List.nodup_append.mpr ⟨h.2.1, by simp, fun a ha b hb => by rw [List.mem_singleton.mp hb]; exact fun e => hn (e ▸ ha)⟩
  · rw [List.length_set]
    rw [← List.cons_append] at hk
    rcases List.mem_append.mp hk with q | q
    · exact h.2.2 k q
    · rw [List.mem_singleton.mp q]; exact hl
theorem getL_dis {d : Nat} {ks : List Nat} {m : Mem} (h : DisL d ks m) : getL m (.loc d) = some (ks.map W.loc) := by
  show (match m[d]? with | some (.lst xs) => some xs | _ => none) = _
  rw [h.1]
theorem not_new {d l : Nat} {ks : List Nat} {μ : Mem} (h : DisL d ks μ) (hl : μ.length ≤ l) : l ∉ d :: ks := fun z => by have := h.2.2 l z; omega
theorem Zmn {it : ItD} {g : GM} {t : TM} {e : EM} {σ : En} {d : Nat} (ht : ApE t) (he : ApE e) (hn : NvA e) : ∀ (xs : List W) (i : Nat) (μ : Mem) (ks : List Nat) (w : W) (m : Mem), DisL d ks μ → Zhp it g t e σ d i xs μ = .ok w m → ∃ ks', DisL d ks' m ∧ ∀ k ∈ d :: ks', k ∈ d :: ks ∨ μ.length ≤ k
  | [], i, μ, ks, w, m, hd, h => by
    unfold Zhp at h
    split at h
    · cases h; exact ⟨ks, hd, fun k hk => .inl hk⟩
    · cases h
  | x :: xs, i, μ, ks, w, m, hd, h => by
    unfold Zhp at h
    split at h
    · split at h
      · obtain ⟨c, m1, q1, h⟩ := Zf9 h
        have l0 : App μ m1 := itm_ap.trans (ht _ _ _ _ q1)
        have d1 := hd.app l0
        split at h
        · obtain ⟨y, m2, q2, h⟩ := Zf9 h
          have l2 := he _ _ _ _ q2
          obtain ⟨l, ys, rfl, h1, h2⟩ := hn _ _ _ _ q2
          have d2 := d1.app l2
          rw [getL_dis d2] at h
          dsimp only at h
          split at h
          · obtain ⟨ks', r1, r2⟩ := Zmn ht he hn xs (i + 1) _ (ks ++ [l]) w m (d2.snoc (Zdf h2) (not_new d1 h1)) h
            refine ⟨ks', r1, fun k hk => ?_⟩
            rcases r2 k hk with q | q
            · rw [← List.cons_append] at q
              rcases List.mem_append.mp q with q | q
              · exact .inl q
              · rw [List.mem_singleton.mp q]
                exact .inr (Nat.le_trans l0.1 h1)
            · rw [List.length_set] at q
              exact .inr (Nat.le_trans l0.1 (Nat.le_trans l2.1 q))
          · cases h
        · obtain ⟨ks', r1, r2⟩ := Zmn ht he hn xs (i + 1) _ ks w m d1 h
          exact ⟨ks', r1, fun k hk => (r2 k hk).imp id (Nat.le_trans l0.1)⟩
      · cases h
    · cases h
theorem dis_new {μ : Mem} : DisL μ.length [] (μ ++ [.lst []]) := ⟨Zk6, by simp, fun k hk => by rw [List.mem_singleton.mp hk, List.length_append]; exact Nat.lt_succ_self _⟩
theorem fv_lc {I : IM} {g : GM} {t : TM} {e : EM} {vs : List Nat} (hI : ApE I) (ht : ApE t) (he : ApE e) (hn : NvA e) : FvA (e_lc I g t e vs) := fun σ μ w m h => by
  unfold e_lc at h
  obtain ⟨it, m1, q1, h⟩ := Zf9 h
  have l1 := (hI _ _ _ _ q1).1
  have hw := (compL_lo ht he _ _ _ _ _ (by rw [List.length_append]; exact Nat.lt_succ_self _) h).2
  obtain ⟨ks, r1, r2⟩ := Zmn ht he hn _ _ _ _ _ _ dis_new h
  refine ⟨m1.length, ks, hw, r1, fun k hk => ?_⟩
  rcases r2 k hk with q | q
  · rw [List.mem_singleton.mp q]; exact l1
  · rw [List.length_append] at q; omega
theorem re_run {e : EM} {d : DE} (h : RE none e d) {μ : Mem} {σ : En} {δ : Ed} {t : T} (sd : SD none [] μ σ δ) (v : Is (d δ []) t []) : ∃ w m, e σ μ = .ok w m ∧ App μ m ∧ Dt none [] m t w := by
  have r := h (co_nil μ) sd
  rw [v.eq] at r
  obtain ⟨w, m, c, e, x, o, q⟩ := r
  obtain rfl : c = [] := List.length_eq_zero_iff.mp o.len
  exact ⟨w, m, e, app_nx x, q⟩
theorem rtt_run {t : TM} {d : DTm} (h : RT none t d) {μ : Mem} {σ : En} {δ : Ed} {b : Bool} (sd : SD none [] μ σ δ) (v : Is (d δ []) b []) : ∃ m, t σ μ = .ok b m ∧ App μ m := by
  have r := h (co_nil μ) sd
  rw [v.eq] at r
  obtain ⟨w, m, c, e, x, o, rfl⟩ := r
  obtain rfl : c = [] := List.length_eq_zero_iff.mp o.len
  exact ⟨m, e, app_nx x⟩
/-! ### facts in the memory -/
noncomputable def AllL (m : Mem) (ks : List Nat) : Prop := ∀ k ∈ ks, ∃ xs, m[k]? = some (.lst xs)
theorem AllL.ne {m : Mem} {ks : List Nat} (h : AllL m ks) {l : Nat} {ws : List W} (e : m[l]? = some (.tup ws)) : l ∉ ks := fun z => by
  obtain ⟨xs, q⟩ := h l z
  rw [e] at q; cases q
theorem en_dt {c c' : List Nat} {m m' : Mem} {a : Option Str} {w : W} (h : Dt none c m (enT a) w) : Dt none c' m' (enT a) w := by
  cases a <;> (unfold enT Dt at h ⊢; exact h)
theorem fc_dt {c c' : List Nat} {m m' : Mem} {f : Fc} {w : W} (h : Dt none c m f.t w) (k : ∀ l ws, l ∉ c → m[l]? = some (.tup ws) → l ∉ c' ∧ m'[l]? = some (.tup ws)) : Dt none c' m' f.t w := by
  unfold Fc.t Dt at h ⊢
  obtain ⟨l, ws, rfl, nc, e, r⟩ := h
  obtain ⟨n', e'⟩ := k l ws nc e
  refine ⟨l, ws, rfl, n', e', dtl_of (fun t ht w h => ?_) r⟩
  simp only [List.mem_cons, List.not_mem_nil, or_false] at ht
  rcases ht with rfl | rfl | rfl
  · exact en_dt h
  · exact en_dt h
  · unfold Dt at h ⊢; exact h
theorem dtl_at {c : List Nat} {m : Mem} : ∀ {ts : List T} {ws : List W} {k : Nat} {t : T} {w : W}, DtL none c m ts ws → ts[k]? = some t → ws[k]? = some w → Dt none c m t w
  | [], ws, k, t, w, h, e, _ => by simp at e
  | t0 :: ts, ws, 0, t, w, h, e, e2 => by
    unfold DtL at h
    obtain ⟨v, vs, rfl, a, b⟩ := h
    simp at e e2
    subst e e2
    exact a
  | t0 :: ts, ws, k + 1, t, w, h, e, e2 => by
    unfold DtL at h
    obtain ⟨v, vs, rfl, a, b⟩ := h
    simp at e e2
    exact dtl_at b e e2
end Pr
namespace Pr
open PySem L2 Vs
/-! ### comprehensions of any number of clauses -/
section
variable {α : Type} {s : Sd} {g : DG} {vs : List Nat} {K : Ed → Sd → Rd Bool} {δ : Ed}
end
end Pr
namespace Pr
open PySem L2 Vs
/-! ### facts and conflicts are taken as such -/
section
variable {s : Sd} (hs : PureS s)
include hs
theorem is_zero_ok : Is (Zgt [.int 0] s) (.bl true) s := by
  refine Zez hs rfl ?_
  simp only [Zdd, Zb5, Zcq, wx_c, Zay, Zan, Zag, Zcl, Zb2, Zco, Za7, Zbo, Zat, Zbp, Zdk, Zca, Zbx, Zby, Zc1, Zdz, Zbz, Zcz, Zbr, Zd1, Zcn, Zd6, Zao, Zdu, Zb8, Zdw, Zb6, Zbf, Zdv, Zcx, Za3, Zax, Zaq, Zbm, Zbe, Za6, Zbg, Zdo, Zdt, Zcr, Zcs, Zav, Zd4, Zck, Zb3, Zcb, Za0, Zcc, Zc0, Zcv, Zd8, Zec, Zd9, Zb0, Zdl, Zds, Zdm, Zea, Zd7, Zd0, Zcw, Zbk, Zc2, Zcp, Zc3, Zcy, Zcu, Zd3, Zd5, Zd2, Zeb, Za9, Zci, Zcj, Zct, Zcm, Zbh, Zbl, Zaw, Zau, Zbb, Zbc, Zbd, Zbi, Zbj, Za8, List.map_cons, List.map_nil, List.cons_append, List.nil_append, List.length_cons, List.length_nil, List.replicate_succ, List.replicate_zero, List.set_cons_succ, List.set_cons_zero, Nat.reduceAdd, Nat.reduceSub, Nat.reduceLeDiff, Nat.reduceLT, if_true, if_false, reduceIte, Bool.false_eq_true, Nat.zero_le, true_and, and_true, (Zmy hs 0).wp, decide_true]
theorem is_name_int (i : Int) : Is (Zfs [.int i] s) (.bl false) s := by
  refine Zez hs rfl ?_
  simp only [Zdd, Zb5, Zcq, wx_c, Zay, Zan, Zag, Zcl, Zb2, Zco, Za7, Zbo, Zat, Zbp, Zdk, Zca, Zbx, Zby, Zc1, Zdz, Zbz, Zcz, Zbr, Zd1, Zcn, Zd6, Zao, Zdu, Zb8, Zdw, Zb6, Zbf, Zdv, Zcx, Za3, Zax, Zaq, Zbm, Zbe, Za6, Zbg, Zdo, Zdt, Zcr, Zcs, Zav, Zd4, Zck, Zb3, Zcb, Za0, Zcc, Zc0, Zcv, Zd8, Zec, Zd9, Zb0, Zdl, Zds, Zdm, Zea, Zd7, Zd0, Zcw, Zbk, Zc2, Zcp, Zc3, Zcy, Zcu, Zd3, Zd5, Zd2, Zeb, Za9, Zci, Zcj, Zct, Zcm, Zbh, Zbl, Zaw, Zau, Zbb, Zbc, Zbd, Zbi, Zbj, Za8, List.map_cons, List.map_nil, List.cons_append, List.nil_append, List.length_cons, List.length_nil, List.replicate_succ, List.replicate_zero, List.set_cons_succ, List.set_cons_zero, Nat.reduceAdd, Nat.reduceSub, Nat.reduceLeDiff, Nat.reduceLT, if_true, if_false, reduceIte, Bool.false_eq_true, Nat.zero_le, true_and, and_true, ty_int]
  first | done | exact ⟨rfl, rfl⟩ | trivial
theorem is_end_ok {e : Option Str} (h : ∀ x, e = some x → isNm x = true) : Is (Zio [enT e] s) (.bl true) s := by
  refine Zez hs rfl ?_
  cases e with
  | none => simp only [enT, Zdd, Zb5, Zcq, wx_c, Zay, Zan, Zag, Zcl, Zb2, Zco, Za7, Zbo, Zat, Zbp, Zdk, Zca, Zbx, Zby, Zc1, Zdz, Zbz, Zcz, Zbr, Zd1, Zcn, Zd6, Zao, Zdu, Zb8, Zdw, Zb6, Zbf, Zdv, Zcx, Za3, Zax, Zaq, Zbm, Zbe, Za6, Zbg, Zdo, Zdt, Zcr, Zcs, Zav, Zd4, Zck, Zb3, Zcb, Za0, Zcc, Zc0, Zcv, Zd8, Zec, Zd9, Zb0, Zdl, Zds, Zdm, Zea, Zd7, Zd0, Zcw, Zbk, Zc2, Zcp, Zc3, Zcy, Zcu, Zd3, Zd5, Zd2, Zeb, Za9, Zci, Zcj, Zct, Zcm, Zbh, Zbl, Zaw, Zau, Zbb, Zbc, Zbd, Zbi, Zbj, Za8, List.map_cons, List.map_nil, List.cons_append, List.nil_append, List.length_cons, List.length_nil, List.replicate_succ, List.replicate_zero, List.set_cons_succ, List.set_cons_zero, Nat.reduceAdd, Nat.reduceSub, Nat.reduceLeDiff, Nat.reduceLT, if_true, if_false, reduceIte, Bool.false_eq_true, Nat.zero_le, true_and, and_true, (is_name_int hs 0).wp, (is_zero_ok hs).wp]
  | some x => simp only [enT, Zdd, Zb5, Zcq, wx_c, Zay, Zan, Zag, Zcl, Zb2, Zco, Za7, Zbo, Zat, Zbp, Zdk, Zca, Zbx, Zby, Zc1, Zdz, Zbz, Zcz, Zbr, Zd1, Zcn, Zd6, Zao, Zdu, Zb8, Zdw, Zb6, Zbf, Zdv, Zcx, Za3, Zax, Zaq, Zbm, Zbe, Za6, Zbg, Zdo, Zdt, Zcr, Zcs, Zav, Zd4, Zck, Zb3, Zcb, Za0, Zcc, Zc0, Zcv, Zd8, Zec, Zd9, Zb0, Zdl, Zds, Zdm, Zea, Zd7, Zd0, Zcw, Zbk, Zc2, Zcp, Zc3, Zcy, Zcu, Zd3, Zd5, Zd2, Zeb, Za9, Zci, Zcj, Zct, Zcm, Zbh, Zbl, Zaw, Zau, Zbb, Zbc, Zbd, Zbi, Zbj, Za8, List.map_cons, List.map_nil, List.cons_append, List.nil_append, List.length_cons, List.length_nil, List.replicate_succ, List.replicate_zero, List.set_cons_succ, List.set_cons_zero, Nat.reduceAdd, Nat.reduceSub, Nat.reduceLeDiff, Nat.reduceLT, if_true, if_false, reduceIte, Bool.false_eq_true, Nat.zero_le, true_and, and_true, (is_name_ok hs (h x rfl)).wp]
/-- a fact whose names are sound -/
noncomputable def Fc.snd (f : Fc) : Prop := (∀ x, f.a = some x → isNm x = true) ∧ ∀ x, f.b = some x → isNm x = true
theorem is_fact_ok {f : Fc} (h : f.snd) : Is (Zgx [f.t] s) (.bl true) s := by
  refine Zez hs rfl ?_
  have ty : Is (Zhm "tuple" (Zad 0) [some f.t] s) (.bl true) s := by
    unfold Zhm
    rw [(Zaj (i := 0) rfl).eq, Zce]
    exact ⟨rfl, rfl⟩
  have i0 : ∀ P : T → Sd → Prop, wp (Zbw (yIx f.t (.int 0) s)) P = P (enT f.a) s := fun P => (Eq.refl _).trans rfl
  have i1 : ∀ P : T → Sd → Prop, wp (Zbw (yIx f.t (.int 1) s)) P = P (enT f.b) s := fun P => (Eq.refl _).trans rfl
  have i2 : ∀ P : T → Sd → Prop, wp (Zbw (yIx f.t (.int 2) s)) P = P (.int f.k) s := fun P => (Eq.refl _).trans rfl
  have ln : ∀ P : T → Sd → Prop, wp (Zbw (yLen [f.t] s)) P = P (.int 3) s := fun P => (Eq.refl _).trans rfl
  show wp (Zde _ [some f.t] s) _
  rw [Za6, Zbr, ty.wp]
  simp only [Zdd, Zb5, Zcq, wx_c, Zay, Zan, Zag, Zcl, Zb2, Zco, Za7, Zbo, Zat, Zbp, Zdk, Zca, Zbx, Zby, Zc1, Zdz, Zbz, Zcz, Zbr, Zd1, Zcn, Zd6, Zao, Zdu, Zb8, Zdw, Zb6, Zbf, Zdv, Zcx, Za3, Zax, Zaq, Zbm, Zbe, Za6, Zbg, Zdo, Zdt, Zcr, Zcs, Zav, Zd4, Zck, Zb3, Zcb, Za0, Zcc, Zc0, Zcv, Zd8, Zec, Zd9, Zb0, Zdl, Zds, Zdm, Zea, Zd7, Zd0, Zcw, Zbk, Zc2, Zcp, Zc3, Zcy, Zcu, Zd3, Zd5, Zd2, Zeb, Za9, Zci, Zcj, Zct, Zcm, Zbh, Zbl, Zaw, Zau, Zbb, Zbc, Zbd, Zbi, Zbj, Za8, List.map_cons, List.map_nil, List.cons_append, List.nil_append, List.length_cons, List.length_nil, List.replicate_succ, List.replicate_zero, List.set_cons_succ, List.set_cons_zero, Nat.reduceAdd, Nat.reduceSub, Nat.reduceLeDiff, Nat.reduceLT, if_true, if_false, reduceIte, Bool.false_eq_true, Nat.zero_le, true_and, and_true, ln, i0, i1, i2, (is_end_ok hs h.1).wp, (is_end_ok hs h.2).wp, (Zmy hs f.k).wp, decide_true]
theorem Zn4 {fs : List Fc} (ne : fs ≠ []) (h : ∀ f ∈ fs, f.snd) (hl : fs.length ≤ 1000) : Is (Zex [fsT fs] s) (.bl true) s := by
  refine Zez hs rfl ?_
  have e0 : List.map some [fsT fs] ++ List.replicate (2 - [fsT fs].length) none = [some (fsT fs), none] := rfl
  rw [e0]
  have ty : Is (Zhm "list" (Zad 0) [some (fsT fs), none] s) (.bl true) s := by
    unfold Zhm
    rw [(Zaj (i := 0) rfl).eq, Zce]
    exact ⟨rfl, rfl⟩
  have ln : ∀ P : T → Sd → Prop, wp (Zbw (yLen [fsT fs] s)) P = P (.int (fs.length : Int)) s := fun P => by
    show P (.int ((fs.map Fc.t).length : Int)) s = _
    rw [List.length_map]
  have pos : decide ((0 : Int) < (fs.length : Int)) = true := decide_eq_true (by
    have : 0 < fs.length := List.length_pos_iff.mpr ne
    omega)
  have lc : Is (x_lc (Zff (Zad 0)) (xg_n 1) Zfw (Zbs Zgx (Zaa (Zad 1) Zaf)) [1] [some (fsT fs), none] s) (.lst (fs.map fun _ => .bl true)) s :=
    Zk9 fs Fc.t (fun _ => .bl true) hs (Zf8 (Zaj rfl)) hl fun f acc hf _ hp => ⟨_, rfl, rfl, by
      show wp _ _
      simp only [Zao, Zag, Zan]
      rw [(Zaj (i := 1) rfl).wp, (is_fact_ok hp (h f hf)).wp]
      exact ⟨rfl, rfl⟩⟩
  rw [Za6, Zbr, ty.wp]
  simp only [Zdd, Zb5, Zcq, wx_c, Zay, Zan, Zag, Zcl, Zb2, Zco, Za7, Zbo, Zat, Zbp, Zdk, Zca, Zbx, Zby, Zc1, Zdz, Zbz, Zcz, Zbr, Zd1, Zcn, Zd6, Zao, Zdu, Zb8, Zdw, Zb6, Zbf, Zdv, Zcx, Za3, Zax, Zaq, Zbm, Zbe, Za6, Zbg, Zdo, Zdt, Zcr, Zcs, Zav, Zd4, Zck, Zb3, Zcb, Za0, Zcc, Zc0, Zcv, Zd8, Zec, Zd9, Zb0, Zdl, Zds, Zdm, Zea, Zd7, Zd0, Zcw, Zbk, Zc2, Zcp, Zc3, Zcy, Zcu, Zd3, Zd5, Zd2, Zeb, Za9, Zci, Zcj, Zct, Zcm, Zbh, Zbl, Zaw, Zau, Zbb, Zbc, Zbd, Zbi, Zbj, Za8, List.map_cons, List.map_nil, List.cons_append, List.nil_append, List.length_cons, List.length_nil, List.replicate_succ, List.replicate_zero, List.set_cons_succ, List.set_cons_zero, Nat.reduceAdd, Nat.reduceSub, Nat.reduceLeDiff, Nat.reduceLT, if_true, if_false, reduceIte, Bool.false_eq_true, Nat.zero_le, true_and, and_true, ln, pos]
  rw [lc.wp]
  simp only [Zdd, Zb5, Zcq, wx_c, Zay, Zan, Zag, Zcl, Zb2, Zco, Za7, Zbo, Zat, Zbp, Zdk, Zca, Zbx, Zby, Zc1, Zdz, Zbz, Zcz, Zbr, Zd1, Zcn, Zd6, Zao, Zdu, Zb8, Zdw, Zb6, Zbf, Zdv, Zcx, Za3, Zax, Zaq, Zbm, Zbe, Za6, Zbg, Zdo, Zdt, Zcr, Zcs, Zav, Zd4, Zck, Zb3, Zcb, Za0, Zcc, Zc0, Zcv, Zd8, Zec, Zd9, Zb0, Zdl, Zds, Zdm, Zea, Zd7, Zd0, Zcw, Zbk, Zc2, Zcp, Zc3, Zcy, Zcu, Zd3, Zd5, Zd2, Zeb, Za9, Zci, Zcj, Zct, Zcm, Zbh, Zbl, Zaw, Zau, Zbb, Zbc, Zbd, Zbi, Zbj, Za8, List.map_cons, List.map_nil, List.cons_append, List.nil_append, List.length_cons, List.length_nil, List.replicate_succ, List.replicate_zero, List.set_cons_succ, List.set_cons_zero, Nat.reduceAdd, Nat.reduceSub, Nat.reduceLeDiff, Nat.reduceLT, if_true, if_false, reduceIte, Bool.false_eq_true, Nat.zero_le, true_and, and_true, all_true]
  first | done | exact ⟨rfl, rfl⟩ | trivial
theorem Zhw {cs : List (List Fc)} (h : ∀ fs ∈ cs, fs ≠ [] ∧ fs.length ≤ 1000 ∧ ∀ f ∈ fs, f.snd) (hl : cs.length ≤ 1000) : Is (Zc5 [.lst (cs.map fsT)] s) (.bl true) s := by
  refine Zez hs rfl ?_
  have e0 : List.map some [T.lst (cs.map fsT)] ++ List.replicate (2 - [T.lst (cs.map fsT)].length) none = [some (.lst (cs.map fsT)), none] := rfl
  rw [e0]
  have ty : Is (Zhm "list" (Zad 0) [some (.lst (cs.map fsT)), none] s) (.bl true) s := by
    unfold Zhm
    rw [(Zaj (i := 0) rfl).eq, Zce]
    exact ⟨rfl, rfl⟩
  have ty2 : Is (Zle "list" [7] (Zad 0) [some (.lst (cs.map fsT)), none] s) (.bl true) s := by
    unfold Zle
    rw [(Zaj (i := 0) rfl).eq, Zce]
    exact ⟨rfl, rfl⟩
  have lc : Is (x_lc (Zff (Zad 0)) (xg_n 1) Zfw (Zbs Zex (Zaa (Zad 1) Zaf)) [1] [some (.lst (cs.map fsT)), none] s) (.lst (cs.map fun _ => .bl true)) s :=
    Zk9 cs fsT (fun _ => .bl true) hs (Zf8 (Zaj rfl)) hl fun fs acc hf _ hp => ⟨_, rfl, rfl, by
      show wp _ _
      simp only [Zao, Zag, Zan]
      rw [(Zaj (i := 1) rfl).wp, (Zn4 hp (h fs hf).1 (h fs hf).2.2 (h fs hf).2.1).wp]
      exact ⟨rfl, rfl⟩⟩
  rw [Za6, Zbr]
  first | rw [ty.wp] | rw [ty2.wp]
  simp only [Zdd, Zb5, Zcq, wx_c, Zay, Zan, Zag, Zcl, Zb2, Zco, Za7, Zbo, Zat, Zbp, Zdk, Zca, Zbx, Zby, Zc1, Zdz, Zbz, Zcz, Zbr, Zd1, Zcn, Zd6, Zao, Zdu, Zb8, Zdw, Zb6, Zbf, Zdv, Zcx, Za3, Zax, Zaq, Zbm, Zbe, Za6, Zbg, Zdo, Zdt, Zcr, Zcs, Zav, Zd4, Zck, Zb3, Zcb, Za0, Zcc, Zc0, Zcv, Zd8, Zec, Zd9, Zb0, Zdl, Zds, Zdm, Zea, Zd7, Zd0, Zcw, Zbk, Zc2, Zcp, Zc3, Zcy, Zcu, Zd3, Zd5, Zd2, Zeb, Za9, Zci, Zcj, Zct, Zcm, Zbh, Zbl, Zaw, Zau, Zbb, Zbc, Zbd, Zbi, Zbj, Za8, List.map_cons, List.map_nil, List.cons_append, List.nil_append, List.length_cons, List.length_nil, List.replicate_succ, List.replicate_zero, List.set_cons_succ, List.set_cons_zero, Nat.reduceAdd, Nat.reduceSub, Nat.reduceLeDiff, Nat.reduceLT, if_true, if_false, reduceIte, Bool.false_eq_true, Nat.zero_le, true_and, and_true]
  rw [lc.wp]
  simp only [Zdd, Zb5, Zcq, wx_c, Zay, Zan, Zag, Zcl, Zb2, Zco, Za7, Zbo, Zat, Zbp, Zdk, Zca, Zbx, Zby, Zc1, Zdz, Zbz, Zcz, Zbr, Zd1, Zcn, Zd6, Zao, Zdu, Zb8, Zdw, Zb6, Zbf, Zdv, Zcx, Za3, Zax, Zaq, Zbm, Zbe, Za6, Zbg, Zdo, Zdt, Zcr, Zcs, Zav, Zd4, Zck, Zb3, Zcb, Za0, Zcc, Zc0, Zcv, Zd8, Zec, Zd9, Zb0, Zdl, Zds, Zdm, Zea, Zd7, Zd0, Zcw, Zbk, Zc2, Zcp, Zc3, Zcy, Zcu, Zd3, Zd5, Zd2, Zeb, Za9, Zci, Zcj, Zct, Zcm, Zbh, Zbl, Zaw, Zau, Zbb, Zbc, Zbd, Zbi, Zbj, Za8, List.map_cons, List.map_nil, List.cons_append, List.nil_append, List.length_cons, List.length_nil, List.replicate_succ, List.replicate_zero, List.set_cons_succ, List.set_cons_zero, Nat.reduceAdd, Nat.reduceSub, Nat.reduceLeDiff, Nat.reduceLT, if_true, if_false, reduceIte, Bool.false_eq_true, Nat.zero_le, true_and, and_true, all_true]
  first | done | exact ⟨rfl, rfl⟩ | trivial
end
end Pr
namespace Pr
open PySem L2 Vs
/-! ### claims are made, their conflicts read -/
noncomputable abbrev clmT (cs : List (List Fc)) : T := .ins 7 [("_conflicts", .lst (cs.map fsT))]
noncomputable def CsOk (cs : List (List Fc)) : Prop := (∀ fs ∈ cs, fs ≠ [] ∧ fs.length ≤ 1000 ∧ ∀ f ∈ fs, f.snd) ∧ cs.length ≤ 1000
theorem Zmm (cs : List (List Fc)) : pure? PD (.lst (cs.map fsT)) = true := List.all_eq_true.mpr fun t ht => by
  obtain ⟨fs, _, rfl⟩ := List.mem_map.mp ht
  exact Zc9 3 (by decide) (Zhq fs)
theorem clm_pure (cs : List (List Fc)) : pure? 5 (clmT cs) = true := by
  refine List.all_eq_true.mpr fun p hp => ?_
  rw [List.mem_singleton.mp hp]
  exact List.all_eq_true.mpr fun t ht => by
    obtain ⟨fs, _, rfl⟩ := List.mem_map.mp ht
    exact Zhq fs
section
variable {s : Sd} {cs : List (List Fc)}
theorem lst_is {ts : List T} {P : T → Sd → Prop} : wp (Zbw (Zjq [.lst ts] s)) P = P (.lst ts) s := (Eq.refl _).trans rfl
theorem Zhh {I : DI} {vs : List Nat} {j : Nat} {δ : Ed} (hs : PureS s) (hl : cs.length ≤ 1000) (hI : Is (I δ s) (cs.map fsT, false) s) (hj : ∀ t : T, ((dwip δ vs).set j (some t))[j]? = some (some t)) : Is (x_lc I (xg_n j) Zfw (x_cb Zjq (Zaa (Zad j) Zaf)) vs δ s) (.lst (cs.map fsT)) s :=
  Zk9 cs fsT fsT hs hI hl fun fs acc hf _ hp => ⟨_, rfl, Zc9 3 (by decide) (Zhq fs), by
    show wp _ _
    rw [Zdk, Zag, (Zaj (hj _)).wp, Zan, show fsT fs = .lst (fs.map Fc.t) from rfl, lst_is]
    exact ⟨rfl, rfl⟩⟩
theorem clm_init (hs : PureS s) (ok : CsOk cs) : Zc8 [.cell s.length, .lst (cs.map fsT)] (s ++ [.ins 7 []]) = .ok .non (s ++ [.ins 7 [("_conflicts", .lst (cs.map fsT))]]) := by
  have p0 : PureS (s ++ [.ins 7 []]) := hs.app rfl
  have p1 : PureS (s ++ [.ins 7 [("_conflicts", .lst (cs.map fsT))]]) := hs.app (List.all_eq_true.mpr fun p hp => by rw [List.mem_singleton.mp hp]; exact Zmm cs)
  have key : wp (Zc8 [.cell s.length, .lst (cs.map fsT)] (s ++ [.ins 7 []])) fun t s' => t = .non ∧ s' = s ++ [.ins 7 [("_conflicts", .lst (cs.map fsT))]] := by
    unfold Zc8
    refine Zgj ?_
    have e0 : List.map some [.cell s.length, .lst (cs.map fsT)] ++ List.replicate (3 - [T.cell s.length, T.lst (cs.map fsT)].length) none = [some (T.cell s.length), some (.lst (cs.map fsT)), none] := rfl
    rw [e0, Zax, Zdo, Zbz, Zbx]
    simp only [Zao, Zag, Zan]
    rw [(Zaj (i := 1) rfl).wp, (Zhw p0 ok.1 ok.2).wp]
    simp only [Zby, Zb0, Zdl, Bool.not_true, Bool.false_eq_true, if_false, Za3, Za0]
    rw [ws_fld, (Zhh (vs := [2]) (j := 2) p0 ok.2 (Zf8 (Zaj (i := 1) rfl)) fun t => rfl).wp, (Zaj (i := 0) rfl).wp, setF_last (by simp)]
    simp only [Zdd, Zb5, Zcq, wx_c, Zay, Zan, Zag, Zcl, Zb2, Zco, Za7, Zbo, Zat, Zbp, Zdk, Zca, Zbx, Zby, Zc1, Zdz, Zbz, Zcz, Zbr, Zd1, Zcn, Zd6, Zao, Zdu, Zb8, Zdw, Zb6, Zbf, Zdv, Zcx, Za3, Zax, Zaq, Zbm, Zbe, Za6, Zbg, Zdo, Zdt, Zcr, Zcs, Zav, Zd4, Zck, Zb3, Zcb, Za0, Zcc, Zc0, Zcv, Zd8, Zec, Zd9, Zb0, Zdl, Zds, Zdm, Zea, Zd7, Zd0, Zcw, Zbk, Zc2, Zcp, Zc3, Zcy, Zcu, Zd3, Zd5, Zd2, Zeb, Za9, Zci, Zcj, Zct, Zcm, Zbh, Zbl, Zaw, Zau, Zbb, Zbc, Zbd, Zbi, Zbj, Za8, List.map_cons, List.map_nil, List.cons_append, List.nil_append, List.length_cons, List.length_nil, List.replicate_succ, List.replicate_zero, List.set_cons_succ, List.set_cons_zero, Nat.reduceAdd, Nat.reduceSub, Nat.reduceLeDiff, Nat.reduceLT, if_true, if_false, reduceIte, Bool.false_eq_true, Nat.zero_le, true_and, and_true]
    have e3 : (s ++ [Vs.TO.ins 7 (putT' "_conflicts" (.lst (cs.map fsT)) [])]).take (s ++ [Vs.TO.ins 7 []]).length = s ++ [.ins 7 [("_conflicts", .lst (cs.map fsT))]] := by
      rw [List.take_of_length_le (by simp)]
      rfl
    rw [e3]
    first | exact ⟨p1, rfl, rfl⟩ | exact ⟨p1, rfl⟩
  obtain ⟨t, s', e, rfl, rfl⟩ := Zlm key
  exact e
theorem clm_make (hs : PureS s) (ok : CsOk cs) {r : DA} {δ : Ed} (hr : r δ s = .ok [.lst (cs.map fsT)] s) : Is (Zgs 7 Zc8 r δ s) (clmT cs) s := by
  unfold Zgs
  rw [hr, Zce, clm_init hs ok, Zce]
  dsimp only
  unfold pop
  dsimp only
  rw [List.take_left, Zfk _ _ hs]
  have f1 : ∀ s' : Sd, s'[s.length]? = some (.ins 7 [("_conflicts", .lst (cs.map fsT))]) → fr s.length s' FU (.cell s.length) = some (clmT cs) := fun s' hd => by
    show (if s.length < s.length then some (T.cell s.length) else match s'[s.length]? with
      | some (.lst ts) => (trav (fr s.length s' 29) ts).map T.lst
      | some (.dic ts) => (Zjd (fr s.length s' 29) ts).map T.dic
      | some (.ins i ts) => (Zjj (fr s.length s' 29) ts).map (T.ins i)
      | _ => none) = _
    rw [if_neg (Nat.lt_irrefl _), hd]
    dsimp only
    rw [Zmf fun y hy => Zfv _ _ 11 29 y.2 (by decide) (by
      rw [List.mem_singleton.mp hy]
      exact List.all_eq_true.mpr fun t ht => by
        obtain ⟨fs, _, rfl⟩ := List.mem_map.mp ht
        exact Zc9 3 (by decide) (Zhq fs))]
    rfl
  rw [f1 _ (by rw [List.getElem?_append_right (Nat.le_refl _), Nat.sub_self]; rfl)]
  exact ⟨rfl, rfl⟩
/-! what it holds -/
theorem Zkg {a : DE} {δ : Ed} (h : Is (a δ s) (clmT cs) s) : Is (Zln 7 "_conflicts" a δ s) (.lst (cs.map fsT)) s := by
  unfold Zln
  rw [h.eq, Zce]
  show Is (if 7 = 7 then (match ([("_conflicts", T.lst (cs.map fsT))] : List (Str × T)).lookup ("_conflicts" : Str) with | some t => Rd.ok t s | none => Rd.bad : Rd T) else Rd.bad) _ _
  rw [if_pos rfl, show ([("_conflicts", T.lst (cs.map fsT))] : List (Str × T)).lookup ("_conflicts" : Str) = some (.lst (cs.map fsT)) from by simp [List.lookup]]
  exact ⟨rfl, rfl⟩
theorem conflicts_is (hs : PureS s) (hl : cs.length ≤ 1000) {a : DE} {δ : Ed} (h : Is (a δ s) (clmT cs) s) : Is (Zgk 7 Za5 a δ s) (.lst (cs.map fsT)) s := by
  unfold Zgk
  rw [h.eq, Zce]
  show Is (if true = true then Za5 [clmT cs] s else Rd.bad) _ _
  rw [if_pos rfl]
  unfold Za5
  refine Zez hs (Zmm cs) ?_
  have e0 : List.map some [clmT cs] ++ List.replicate (2 - [clmT cs].length) none = [some (clmT cs), none] := rfl
  rw [e0, Za6, (Zhh (vs := [1]) (j := 1) hs hl (Zf8 (Zkg (Zaj (i := 0) rfl))) fun t => rfl).wp]
  first | done | exact ⟨rfl, rfl⟩ | trivial
theorem Zlo (hs : PureS s) : Is (Zfp [clmT cs] s) .non s := by
  unfold Zfp
  refine Zgj ?_
  have e0 : List.map some [clmT cs] ++ List.replicate (1 - [clmT cs].length) none = [some (clmT cs)] := rfl
  have a : Is (x_isI 7 (Zad 0) [some (clmT cs)] s) (.bl true) s := by
    unfold x_isI
    rw [(Zaj (i := 0) rfl).eq, Zce]
    exact ⟨rfl, rfl⟩
  rw [e0, Zdo, Zbz, Zbx, a.wp]
  simp only [Zdd, Zb5, Zcq, wx_c, Zay, Zan, Zag, Zcl, Zb2, Zco, Za7, Zbo, Zat, Zbp, Zdk, Zca, Zbx, Zby, Zc1, Zdz, Zbz, Zcz, Zbr, Zd1, Zcn, Zd6, Zao, Zdu, Zb8, Zdw, Zb6, Zbf, Zdv, Zcx, Za3, Zax, Zaq, Zbm, Zbe, Za6, Zbg, Zdo, Zdt, Zcr, Zcs, Zav, Zd4, Zck, Zb3, Zcb, Za0, Zcc, Zc0, Zcv, Zd8, Zec, Zd9, Zb0, Zdl, Zds, Zdm, Zea, Zd7, Zd0, Zcw, Zbk, Zc2, Zcp, Zc3, Zcy, Zcu, Zd3, Zd5, Zd2, Zeb, Za9, Zci, Zcj, Zct, Zcm, Zbh, Zbl, Zaw, Zau, Zbb, Zbc, Zbd, Zbi, Zbj, Za8, List.map_cons, List.map_nil, List.cons_append, List.nil_append, List.length_cons, List.length_nil, List.replicate_succ, List.replicate_zero, List.set_cons_succ, List.set_cons_zero, Nat.reduceAdd, Nat.reduceSub, Nat.reduceLeDiff, Nat.reduceLT, if_true, if_false, reduceIte, Bool.false_eq_true, Nat.zero_le, true_and, and_true, len_t1, len_t2, len_t3, len_t4, len_t5, Int.reduceEq, Int.reduceLT, Int.reduceLE, Int.reduceAdd, Int.reduceSub, Int.reduceNeg, decide_true, decide_false, Bool.not_true, Bool.not_false, Znv, se_free_choice, se_free_extend, se_free_number, se_free_plus, se_free_max, se_free_min, se_free_if, se_free_set, se_free_add, se_free_seal, Zn2, Zlp, Zlr, Zlu, se_sealed_plus, se_sealed_max, se_sealed_min, se_sealed_if, se_sealed_set, se_sealed_add, se_sealed_seal, Znx, Zlv, Zlx, Zl3, Zn3, se_choice_max, se_choice_min, se_choice_if, se_choice_set, se_choice_add, se_choice_seal, se_extend_free, Zli, Zlw, Zlt, Zno, se_extend_max, se_extend_min, se_extend_if, se_extend_set, se_extend_add, Zn1, se_number_free, Zlk, Zlh, Zlq, se_number_plus, se_number_max, se_number_min, se_number_if, se_number_set, se_number_add, Znp, se_plus_free, Znq, se_plus_choice, se_plus_extend, Znw, se_plus_max, se_plus_min, se_plus_if, se_plus_set, se_plus_add, se_plus_seal, se_max_free, se_max_sealed, se_max_choice, se_max_extend, se_max_number, se_max_plus, se_max_min, se_max_if, se_max_set, se_max_add, se_max_seal, se_min_free, se_min_sealed, se_min_choice, se_min_extend, se_min_number, se_min_plus, se_min_max, se_min_if, se_min_set, se_min_add, se_min_seal, se_if_free, se_if_sealed, se_if_choice, se_if_extend, se_if_number, se_if_plus, se_if_max, se_if_min, se_if_set, se_if_add, se_if_seal, se_set_free, se_set_sealed, se_set_choice, se_set_extend, se_set_number, se_set_plus, se_set_max, se_set_min, se_set_if, se_set_add, se_set_seal, se_add_free, se_add_sealed, se_add_choice, se_add_extend, se_add_number, se_add_plus, se_add_max, se_add_min, se_add_if, se_add_set, se_add_seal, se_seal_free, se_seal_sealed, se_seal_choice, Znz, se_seal_number, se_seal_plus, se_seal_max, se_seal_min, se_seal_if, se_seal_set, se_seal_add, Bool.not_true]
  first | exact ⟨hs.take _, rfl, Zhk _⟩ | exact ⟨hs.take _, Zhk _⟩ | exact ⟨Zhk _⟩ | (trace_state; fail)
end
end Pr
namespace Pr
open PySem L2 Vs
/-! ### claims joined -/
section
variable {s : Sd} {cs : List (List Fc)}
theorem and_is (hs : PureS s) {ds : List (List Fc)} (ok : CsOk (cs ++ ds)) {a b : DE} {δ : Ed} (ha : Is (a δ s) (clmT cs) s) (hb : Is (b δ s) (clmT ds) s) : Is (x_oand 7 Zew a b δ s) (clmT (cs ++ ds)) s := by
  show Is (Zns 7 Zew a b δ s) _ _
  unfold Zns
  rw [ha.eq, Zce, hb.eq, Zce]
  show Is (if true = true then Zew [clmT cs, clmT ds] s else Rd.bad) _ _
  rw [if_pos rfl]
  unfold Zew
  refine Zez hs (Zc9 5 (by decide) (clm_pure _)) ?_
  have e0 : List.map some [clmT cs, clmT ds] ++ List.replicate (2 - [clmT cs, clmT ds].length) none = [some (clmT cs), some (clmT ds)] := rfl
  rw [e0, Zax, Zdt, Zao, Zag, (Zaj (i := 1) rfl).wp, Zan, (Zlo hs).wp]
  simp only [Za0]
  have r : (Zaa (Zap yAdd (Zln 7 "_conflicts" (Zad 0)) (Zln 7 "_conflicts" (Zad 1))) Zaf) [some (clmT cs), some (clmT ds)] s = .ok [.lst ((cs ++ ds).map fsT)] s := by
    have i : Is (Zap yAdd (Zln 7 "_conflicts" (Zad 0)) (Zln 7 "_conflicts" (Zad 1)) [some (clmT cs), some (clmT ds)] s) (.lst ((cs ++ ds).map fsT)) s := by
      show wp _ _
      rw [Zay, (Zkg (Zaj (i := 0) rfl)).wp, (Zkg (Zaj (i := 1) rfl)).wp, Zhc, List.map_append]
      refine ⟨?_, rfl, rfl⟩
      have := ok.2
      rw [List.length_append] at this
      rw [List.length_map, List.length_map]
      show _ ≤ 100000
      omega
    unfold Zaa
    rw [i.eq, Zce]
    rfl
  rw [Za6, (clm_make hs ok r).wp]
  first | done | exact ⟨rfl, rfl⟩ | trivial
end
end Pr
namespace Pr
open PySem L2 Vs
/-! ### data with dicts in it, whose text is short -/
noncomputable def ustr (x : Str) : Bool := (x.cps.toList.all fun c => decide (c < 128)) && decide (x.cps.size ≤ 100)
noncomputable def ukey : Key → Bool
  | .inl i => decide (i.natAbs < 10 ^ 40)
  | .inr x => ustr x
noncomputable def udat : Nat → T → Bool
  | _, .non => true
  | _, .bl _ => true
  | _, .int i => decide (i.natAbs < 10 ^ 40)
  | _, .str x => ustr x
  | d + 1, .lst ts => ts.all (udat d)
  | d + 1, .tup ts => ts.all (udat d)
  | d + 1, .dic kvs => kvs.all fun p => ukey p.1 && udat d p.2
  | _, _ => false
noncomputable def usz : Nat → T → Nat
  | d + 1, .lst ts => 1 + (ts.map (usz d)).sum
  | d + 1, .tup ts => 1 + (ts.map (usz d)).sum
  | d + 1, .dic kvs => 1 + (kvs.map fun p => 1 + usz d p.2).sum
  | _, _ => 1
theorem Zk1 (d : Nat) (t : T) : 1 ≤ usz d t := by cases d <;> cases t <;> simp only [usz] <;> omega
structure DatU (d : Nat) (t : T) (D : PyData) : Prop where
  deep : ∀ (s : Sd) (n : Nat), d ≤ n → Zgw s n t = some D
  ls : D.leavesShort 41 = true
  dp : D.depth ≤ d
  sh : D.showable = true
  wt : D.weight + 1 ≤ 150 * usz d t
theorem ustr_at {x : Str} (h : ustr x = true) : (PyData.str x).leavesShort 41 = true ∧ (PyData.str x).weight ≤ 100 := by
  unfold ustr at h
  rw [Bool.and_eq_true] at h
  refine ⟨?_, ?_⟩
  · simp only [PyData.leavesShort]
    exact List.all_eq_true.mpr fun c hc => by
      have := of_decide_eq_true (List.all_eq_true.mp h.1 c hc)
      exact decide_eq_true (by omega)
  · simp only [PyData.weight]
    exact of_decide_eq_true h.2
theorem uint_at {i : Int} (h : i.natAbs < 10 ^ 40) : (PyData.int i).leavesShort 41 = true ∧ (PyData.int i).weight ≤ 141 ∧ (PyData.int i).showable = true := by
  have l := log40 h
  refine ⟨?_, ?_, ?_⟩
  · simp only [PyData.leavesShort]; exact decide_eq_true (shown_int40 h)
  · simp only [PyData.weight]; split <;> omega
  · simp only [PyData.showable]; exact decide_eq_true (by omega)
theorem ukey_at {k : Key} (h : ukey k = true) : (Zh8 k).leavesShort 41 = true ∧ (Zh8 k).weight ≤ 141 ∧ (Zh8 k).showable = true ∧ (Zh8 k).depth = 0 := by
  cases k with
  | inl i =>
    obtain ⟨a, b, c⟩ := uint_at (of_decide_eq_true h)
    exact ⟨a, b, c, by simp only [Zh8, PyData.depth]⟩
  | inr x =>
    obtain ⟨a, b⟩ := ustr_at h
    exact ⟨a, by show PyData.weight (.str x) ≤ 141; omega, rfl, by simp only [Zh8, PyData.depth]⟩
mutual
theorem Znb {d : Nat} (ih : ∀ t, udat d t = true → ∃ D, DatU d t D) : ∀ ts : List T, ts.all (udat d) = true → ∃ Ds, (∀ (s : Sd) (n : Nat), d ≤ n → Zg0 (Zgw s n) ts = some Ds) ∧ PyData.leavesShortAll 41 Ds = true ∧ PyData.depthAll Ds ≤ d ∧ PyData.showableAll Ds = true ∧ PyData.weightAll Ds ≤ 150 * (ts.map (usz d)).sum
  | [], _ => ⟨[], fun _ _ _ => rfl, rfl, Nat.zero_le _, rfl, Nat.zero_le _⟩
  | t :: ts, h => by
    rw [List.all_cons, Bool.and_eq_true] at h
    obtain ⟨D, a⟩ := ih t h.1
    obtain ⟨Ds, k1, k2, k3, k4, k6⟩ := Znb ih ts h.2
    refine ⟨D :: Ds, fun s n hn => ?_, ?_, ?_, ?_, ?_⟩
    · show (Zgw s n t).bind (fun u => (Zg0 (Zgw s n) ts).map fun us => u :: us) = _
      rw [a.deep s n hn, k1 s n hn]; rfl
    · simp only [PyData.leavesShortAll, a.ls, k2, Bool.and_self]
    · simp only [PyData.depthAll]
      have := a.dp
      omega
    · simp only [PyData.showableAll, a.sh, k4, Bool.and_self]
    · simp only [PyData.weightAll, List.map_cons, List.sum_cons]
      have := a.wt
      have := Zk1 d t
      omega
theorem udat_kvs {d : Nat} (ih : ∀ t, udat d t = true → ∃ D, DatU d t D) : ∀ ts : List (Key × T), (ts.all fun p => ukey p.1 && udat d p.2) = true → ∃ Ds, (∀ (s : Sd) (n : Nat), d ≤ n → Zld (Zgw s n) ts = some Ds) ∧ PyData.leavesShortKv 41 Ds = true ∧ PyData.depthKv Ds ≤ d ∧ PyData.showableKv Ds = true ∧ PyData.weightKv Ds ≤ 150 * (ts.map fun p => 1 + usz d p.2).sum
  | [], _ => ⟨[], fun _ _ _ => rfl, rfl, Nat.zero_le _, rfl, Nat.zero_le _⟩
  | (k, t) :: ts, h => by
    rw [List.all_cons, Bool.and_eq_true, Bool.and_eq_true] at h
    obtain ⟨D, a⟩ := ih t h.1.2
    have hk : ukey k = true := h.1.1
    obtain ⟨q1, q2, q3, q4⟩ := ukey_at hk
    obtain ⟨Ds, k1, k2, k3, k4, k6⟩ := udat_kvs ih ts h.2
    refine ⟨(Zh8 k, D) :: Ds, fun s n hn => ?_, ?_, ?_, ?_, ?_⟩
    · show (Zgw s n t).bind (fun u => (Zld (Zgw s n) ts).map fun us => (Zh8 k, u) :: us) = _
      rw [a.deep s n hn, k1 s n hn]; rfl
    · simp only [PyData.leavesShortKv, q1, a.ls, k2, Bool.and_self]
    · simp only [PyData.depthKv]
      have := a.dp
      omega
    · simp only [PyData.showableKv, q3, a.sh, k4, Bool.and_self]
    · simp only [PyData.weightKv, List.map_cons, List.sum_cons]
      have := a.wt
      have := Zk1 d t
      omega
theorem Zjn : ∀ (d : Nat) (t : T), udat d t = true → ∃ D, DatU d t D
  | d, .non, _ => by
    refine ⟨.none, fun s n _ => by cases n <;> rfl, rfl, by simp only [PyData.depth]; omega, rfl, ?_⟩
    have := Zk1 d .non
    simp only [PyData.weight]
    omega
  | d, .bl b, _ => by
    refine ⟨.bool b, fun s n _ => by cases n <;> rfl, rfl, by simp only [PyData.depth]; omega, rfl, ?_⟩
    have := Zk1 d (.bl b)
    simp only [PyData.weight]
    omega
  | d, .int i, h => by
    have h : i.natAbs < 10 ^ 40 := by cases d <;> exact of_decide_eq_true h
    obtain ⟨a, b, c⟩ := uint_at h
    refine ⟨.int i, fun s n _ => by cases n <;> rfl, a, by simp only [PyData.depth]; omega, c, ?_⟩
    have := Zk1 d (.int i)
    omega
  | d, .str x, h => by
    have h : ustr x = true := by cases d <;> exact h
    obtain ⟨a, b⟩ := ustr_at h
    refine ⟨.str x, fun s n _ => by cases n <;> rfl, a, by simp only [PyData.depth]; omega, rfl, ?_⟩
    have := Zk1 d (.str x)
    omega
  | d + 1, .lst ts, h => by
    obtain ⟨Ds, k1, k2, k3, k4, k6⟩ := Znb (fun t => Zjn d t) ts h
    refine ⟨.list Ds, fun s n hn => ?_, ?_, ?_, ?_, ?_⟩
    · cases n with
      | zero => omega
      | succ n =>
        show (Zg0 (Zgw s n) ts).map PyData.list = _
        rw [k1 s n (by omega)]; rfl
    · simp only [PyData.leavesShort, k2]
    · simp only [PyData.depth]; omega
    · simp only [PyData.showable, k4]
    · simp only [PyData.weight, usz]
      omega
  | d + 1, .tup ts, h => by
    obtain ⟨Ds, k1, k2, k3, k4, k6⟩ := Znb (fun t => Zjn d t) ts h
    refine ⟨.tuple Ds, fun s n hn => ?_, ?_, ?_, ?_, ?_⟩
    · cases n with
      | zero => omega
      | succ n =>
        show (Zg0 (Zgw s n) ts).map PyData.tuple = _
        rw [k1 s n (by omega)]; rfl
    · simp only [PyData.leavesShort, k2]
    · simp only [PyData.depth]; omega
    · simp only [PyData.showable, k4]
    · simp only [PyData.weight, usz]
      omega
  | d + 1, .dic ts, h => by
    obtain ⟨Ds, k1, k2, k3, k4, k6⟩ := udat_kvs (fun t => Zjn d t) ts h
    refine ⟨.dict Ds, fun s n hn => ?_, ?_, ?_, ?_, ?_⟩
    · cases n with
      | zero => omega
      | succ n =>
        show (Zld (Zgw s n) ts).map PyData.dict = _
        rw [k1 s n (by omega)]; rfl
    · simp only [PyData.leavesShort, k2]
    · simp only [PyData.depth]; omega
    · simp only [PyData.showable, k4]
    · simp only [PyData.weight, usz]
      omega
  | 0, .lst ts, h => by cases h
  | 0, .tup ts, h => by cases h
  | 0, .dic b, h => by cases h
  | d, .ins n b, h => by cases d <;> cases h
  | d, .cell b, h => by cases d <;> cases h
  | d, .exn n b, h => by cases d <;> cases h
end
theorem reprU_ok {d : Nat} {t : T} (h : udat d t = true) (hd : d ≤ 50) (hl : usz d t ≤ 2500) : ∃ D : PyData, (∀ s : Sd, Zgw s 60 t = some D) ∧ Zjc D = true := by
  obtain ⟨D, a⟩ := Zjn d t h
  refine ⟨D, fun s => a.deep s 60 (by omega), ?_⟩
  have dp := a.dp
  unfold Zjc reprOk
  rw [a.sh, Bool.true_and, Bool.and_eq_true]
  refine ⟨decide_eq_true ?_, decide_eq_true (by omega)⟩
  have := PyData.shown_le 41 (by decide) D a.ls
  have w := a.wt
  show _ ≤ 16777216
  omega
/-- what reads alike -/
theorem deepU_ob {s : Sd} {t u : T} {n : Nat} {o : TU} (h : ob s t = some o) (h' : ob s u = some o) : Zgw s (n + 1) t = Zgw s (n + 1) u := by
  unfold Zgw
  rw [h, h']
  cases o <;> rfl
theorem is_reprU {a : DE} {δ : Ed} {s : Sd} {t : T} {D : PyData} (ha : Is (a δ s) t s) (f : fl t = none) (h : Zgw s 60 t = some D) (ok : Zjc D = true) : Is (Ze6 a δ s) (.str D.shown) s := by
  unfold Ze6
  rw [ha.eq, Zce, f]
  dsimp only
  rw [h]
  dsimp only
  rw [if_pos ok]
  exact ⟨rfl, rfl⟩
end Pr
namespace Pr
open PySem L2 Vs
/-! ### what is no end, what is no number -/
section
variable {s : Sd} {t : T} {k : String}
theorem whole_ty (hs : PureS s) (hk : ∀ s : Sd, tyT s t = some k) : Is (Zfm [t] s) (.bl (subT k "int" && !subT k "bool")) s := by
  unfold Zfm
  refine Zez hs rfl ?_
  have e0 : List.map some [t] ++ List.replicate (1 - [t].length) none = [some t] := rfl
  rw [e0, Za6, Zbr, Zb6, (Zaj (i := 0) rfl).wp, hk]
  simp only [Zdm, Zb0]
  cases subT k "int" with
  | false => first | exact ⟨rfl, rfl⟩ | trivial
  | true =>
    simp only [if_true, Bool.true_and]
    rw [Zcn, Zb6, (Zaj (i := 0) rfl).wp, hk]
    simp only [Zdm, Zby, Zdl]
    first | exact ⟨rfl, rfl⟩ | trivial
theorem Zkz (hs : PureS s) (hk : ∀ s : Sd, tyT s t = some k) (hn : subT k "str" = false) : Is (Zfs [t] s) (.bl false) s := by
  unfold Zfs
  refine Zez hs rfl ?_
  have e0 : List.map some [t] ++ List.replicate (1 - [t].length) none = [some t] := rfl
  rw [e0, Zax, Zdo, Zdz, Zbz, Zbx, Zb6, (Zaj (i := 0) rfl).wp, hk]
  simp only [Zdm, hn, Zby, Zdl, Bool.not_false, if_true]
  rw [Za6, wx_c]
  simp only [Zcc]
  first | exact ⟨rfl, rfl⟩ | trivial
theorem name_str (hs : PureS s) {x : Str} (hl : x.length ≤ LIM) (h : 10 < x.length ∨ (Txt.isascii x && (Txt.isalpha x && Txt.islower x)) = false) : Is (Zfs [.str x] s) (.bl false) s := by
  unfold Zfs
  refine Zez hs rfl ?_
  simp only [Zdd, Zb5, Zcq, wx_c, Zay, Zan, Zag, Zcl, Zb2, Zco, Za7, Zbo, Zat, Zbp, Zdk, Zca, Zbx, Zby, Zc1, Zdz, Zbz, Zcz, Zbr, Zd1, Zcn, Zd6, Zao, Zdu, Zb8, Zdw, Zb6, Zbf, Zdv, Zcx, Za3, Zax, Zaq, Zbm, Zbe, Za6, Zbg, Zdo, Zdt, Zcr, Zcs, Zav, Zd4, Zck, Zb3, Zcb, Za0, Zcc, Zc0, Zcv, Zd8, Zec, Zd9, Zb0, Zdl, Zds, Zdm, Zea, Zd7, Zd0, Zcw, Zbk, Zc2, Zcp, Zc3, Zcy, Zcu, Zd3, Zd5, Zd2, Zeb, Za9, Zci, Zcj, Zct, Zcm, Zbh, Zbl, Zaw, Zau, Zbb, Zbc, Zbd, Zbi, Zbj, Za8, List.map_cons, List.map_nil, List.cons_append, List.nil_append, List.length_cons, List.length_nil, List.replicate_succ, List.replicate_zero, List.set_cons_succ, List.set_cons_zero, Nat.reduceAdd, Nat.reduceSub, Nat.reduceLeDiff, Nat.reduceLT, if_true, if_false, reduceIte, Bool.false_eq_true, Nat.zero_le, true_and, and_true, ty_str, Zg9, wp_lenS hl, Bool.not_true, wp_strf, is_strs]
  by_cases c : 10 < x.length
  · have c' : (10 : Int) < (x.length : Int) := by omega
    simp only [decide_eq_true c', if_true]
  · have c' : ¬ (10 : Int) < (x.length : Int) := by omega
    simp only [decide_eq_false c', Bool.false_eq_true, if_false]
    rcases h with h | h
    · exact absurd h c
    · revert h
      cases Txt.isascii x <;> cases Txt.isalpha x <;> cases Txt.islower x <;> intro h <;> first | (exact absurd h (by decide)) | (simp only [if_true, Bool.false_eq_true, if_false]; first | exact ⟨rfl, rfl⟩ | trivial) | exact ⟨rfl, rfl⟩ | trivial
theorem Zk2 (hs : PureS s) (h : Is (Zfm [t] s) (.bl false) s) : Is (Zgt [t] s) (.bl false) s := by
  unfold Zgt
  refine Zez hs rfl ?_
  have e0 : List.map some [t] ++ List.replicate (1 - [t].length) none = [some t] := rfl
  rw [e0, Za6, Zbr, Zao, Zag, (Zaj (i := 0) rfl).wp, Zan, h.wp]
  simp only [Zb0, Bool.false_eq_true, if_false]
  first | exact ⟨rfl, rfl⟩ | trivial
end
end Pr
namespace Pr
open PySem L2 Vs
/-! ### facts, conflicts and lists of them, of any data -/
noncomputable def nameB : T → Bool
  | .str x => isNm x
  | _ => false
noncomputable def Zlc : T → Bool
  | .int _ => true
  | _ => false
noncomputable def zeroB : T → Bool
  | .int i => decide (i = 0)
  | _ => false
noncomputable def endB (t : T) : Bool := nameB t || zeroB t
noncomputable def factB : T → Bool
  | .tup [a, b, c] => endB a && (endB b && Zlc c)
  | _ => false
noncomputable def confB : T → Bool
  | .lst fs => decide (0 < fs.length) && fs.all factB
  | _ => false
noncomputable def confsB : T → Bool
  | .lst cs => cs.all confB
  | _ => false
/-- data whose texts are no names, or names -/
noncomputable def Zfg : T → Bool
  | .str x => decide (x.length ≤ LIM) && (isNm x || (decide (10 < x.length) || !(Txt.isascii x && (Txt.isalpha x && Txt.islower x))))
  | .non | .bl _ | .int _ | .lst _ | .tup _ | .dic _ => true
  | _ => false
noncomputable def Zlf : T → Bool
  | .tup ts => ts.all Zfg && decide (ts.length ≤ 1000)
  | t => Zfg t
noncomputable def plainC : T → Bool
  | .lst fs => fs.all Zlf && decide (fs.length ≤ 1000)
  | t => Zfg t
noncomputable def Zia : T → Bool
  | .lst cs => cs.all plainC && decide (cs.length ≤ 1000)
  | t => Zfg t
noncomputable def kT : T → String
  | .non => "NoneType"
  | .bl _ => "bool"
  | .int _ => "int"
  | .str _ => "str"
  | .lst _ => "list"
  | .tup _ => "tuple"
  | .dic _ => "dict"
  | _ => ""
theorem Zgo {t : T} (p : Zfg t = true) (s : Sd) : tyT s t = some (kT t) := by
  cases t <;> first | rfl | cases p
theorem plainF_T {t : T} (p : Zlf t = true) : Zfg t = true := by cases t <;> first | rfl | exact p
theorem plainC_T {t : T} (p : plainC t = true) : Zfg t = true := by cases t <;> first | rfl | exact p
theorem plainCs_T {t : T} (p : Zia t = true) : Zfg t = true := by cases t <;> first | rfl | exact p
section
variable {s : Sd} {t : T}
theorem whole_any (hs : PureS s) (p : Zfg t = true) : Is (Zfm [t] s) (.bl (Zlc t)) s := by
  have h := whole_ty (k := kT t) hs (Zgo p)
  cases t with
  | non => exact h
  | bl b => exact h
  | int i => exact h
  | str x => exact h
  | lst x => exact h
  | tup x => exact h
  | dic x => exact h
  | _ => cases p
theorem name_any (hs : PureS s) (p : Zfg t = true) : Is (Zfs [t] s) (.bl (nameB t)) s := by
  cases t with
  | str x =>
    have p : (decide (x.length ≤ LIM) && (isNm x || (decide (10 < x.length) || !(Txt.isascii x && (Txt.isalpha x && Txt.islower x))))) = true := p
    rw [Bool.and_eq_true] at p
    show Is _ (T.bl (isNm x)) s
    cases h : isNm x with
    | true => exact is_name_ok hs h
    | false =>
      have p2 := p.2
      rw [h, Bool.false_or, Bool.or_eq_true] at p2
      refine name_str hs (of_decide_eq_true p.1) (p2.imp (fun h => of_decide_eq_true h) fun h => ?_)
      cases q : (Txt.isascii x && (Txt.isalpha x && Txt.islower x)) with
      | true => rw [q] at h; cases h
      | false => rfl
  | non => exact Zkz hs (Zgo p) (by decide)
  | bl b => exact Zkz hs (Zgo p) (by decide : subT "bool" "str" = false)
  | int i => exact Zkz hs (Zgo p) (by decide : subT "int" "str" = false)
  | lst x => exact Zkz hs (Zgo p) (by decide : subT "list" "str" = false)
  | tup x => exact Zkz hs (Zgo p) (by decide : subT "tuple" "str" = false)
  | dic x => exact Zkz hs (Zgo p) (by decide : subT "dict" "str" = false)
  | _ => cases p
theorem zero_any (hs : PureS s) (p : Zfg t = true) : Is (Zgt [t] s) (.bl (zeroB t)) s := by
  have w := whole_any hs p
  cases t with
  | int i =>
    unfold Zgt
    refine Zez hs rfl ?_
    have e0 : List.map some [T.int i] ++ List.replicate (1 - [T.int i].length) none = [some (.int i)] := rfl
    rw [e0, Za6, Zbr, Zao, Zag, (Zaj (i := 0) rfl).wp, Zan, (Zmy hs i).wp]
    simp only [Zb0, if_true]
    rw [Zay, (Zaj (i := 0) rfl).wp, wx_c, Zci]
    first | exact ⟨rfl, rfl⟩ | trivial
  | non => exact Zk2 hs w
  | bl b => exact Zk2 hs w
  | str i => exact Zk2 hs w
  | lst x => exact Zk2 hs w
  | tup x => exact Zk2 hs w
  | dic x => exact Zk2 hs w
  | _ => cases p
theorem end_any (hs : PureS s) (p : Zfg t = true) : Is (Zio [t] s) (.bl (endB t)) s := by
  unfold Zio
  refine Zez hs rfl ?_
  have e0 : List.map some [t] ++ List.replicate (1 - [t].length) none = [some t] := rfl
  rw [e0, Za6, Zd1, Zao, Zag, (Zaj (i := 0) rfl).wp, Zan, (name_any hs p).wp]
  unfold endB
  cases h : nameB t with
  | true =>
    simp only [Zb0, if_true, Bool.true_or]
    first | exact ⟨rfl, rfl⟩ | trivial
  | false =>
    simp only [Zb0, Bool.false_eq_true, if_false, Bool.false_or]
    rw [Zao, Zag, (Zaj (i := 0) rfl).wp, Zan, (zero_any hs p).wp]
    first | exact ⟨rfl, rfl⟩ | trivial
theorem isT_any {k : String} {a : DE} {δ : Ed} (ha : Is (a δ s) t s) (p : Zfg t = true) : Is (Zhm k a δ s) (.bl (subT (kT t) k)) s := by
  show wp _ _
  rw [Zb6, ha.wp, Zgo p]
  simp only [Zdm]
  first | exact ⟨rfl, rfl⟩ | trivial
theorem isTO_any {k : String} {L : List Nat} {a : DE} {δ : Ed} (ha : Is (a δ s) t s) (p : Zfg t = true) : Is (Zle k L a δ s) (.bl (subT (kT t) k)) s := by
  unfold Zle
  rw [ha.eq, Zce, Zgo p]
  exact ⟨rfl, rfl⟩
theorem fact_any (hs : PureS s) (p : Zlf t = true) : Is (Zgx [t] s) (.bl (factB t)) s := by
  unfold Zgx
  refine Zez hs rfl ?_
  have e0 : List.map some [t] ++ List.replicate (1 - [t].length) none = [some t] := rfl
  rw [e0, Za6, Zbr, (isT_any (t := t) (Zaj (i := 0) rfl) (plainF_T p)).wp]
  cases t with
  | tup ts =>
    have p : (ts.all Zfg && decide (ts.length ≤ 1000)) = true := p
    rw [Bool.and_eq_true] at p
    have p1 := List.all_eq_true.mp p.1
    have ln : ∀ P : T → Sd → Prop, wp (Zbw (yLen [.tup ts] s)) P = P (.int (ts.length : Int)) s := fun P => rfl
    simp only [show subT (kT (.tup ts)) "tuple" = true from (by decide : subT "tuple" "tuple" = true), Zb0, if_true]
    rw [Zbr, Zay, Zdk, Zag, (Zaj (i := 0) rfl).wp, Zan, ln, wx_c, Zci]
    by_cases h3 : ts.length = 3
    · obtain ⟨a, b, c, rfl⟩ : ∃ a b c, ts = [a, b, c] := by
        match ts, h3 with
        | [a, b, c], _ => exact ⟨a, b, c, rfl⟩
      have i0 : ∀ P : T → Sd → Prop, wp (Zbw (yIx (.tup [a, b, c]) (.int 0) s)) P = P a s := fun P => Zbb ..
      have i1 : ∀ P : T → Sd → Prop, wp (Zbw (yIx (.tup [a, b, c]) (.int 1) s)) P = P b s := fun P => Zbc ..
      have i2 : ∀ P : T → Sd → Prop, wp (Zbw (yIx (.tup [a, b, c]) (.int 2) s)) P = P c s := fun P => Zbd ..
      have pa := p1 a (by simp)
      have pb := p1 b (by simp)
      have pc := p1 c (by simp)
      rw [decide_eq_true (show (([a, b, c] : List T).length : Int) = 3 from rfl)]
      simp only [Zb0, if_true]
      rw [Zbr, Zao, Zag, Zay, (Zaj (i := 0) rfl).wp, wx_c, i0, Zan, (end_any hs pa).wp]
      show _
      cases ea : endB a with
      | false =>
        simp only [Zb0, Bool.false_eq_true, if_false]
        rw [show factB (.tup [a, b, c]) = false from by show (endB a && _) = false; rw [ea]; rfl]
        first | exact ⟨rfl, rfl⟩ | exact ⟨rfl, trivial⟩ | trivial
      | true =>
        simp only [Zb0, if_true]
        rw [Zbr, Zao, Zag, Zay, (Zaj (i := 0) rfl).wp, wx_c, i1, Zan, (end_any hs pb).wp]
        cases eb : endB b with
        | false =>
          simp only [Zb0, Bool.false_eq_true, if_false]
          rw [show factB (.tup [a, b, c]) = false from by show (endB a && (endB b && _)) = false; rw [ea, eb]; rfl]
          first | exact ⟨rfl, rfl⟩ | exact ⟨rfl, trivial⟩ | trivial
        | true =>
          simp only [Zb0, if_true]
          rw [Zao, Zag, Zay, (Zaj (i := 0) rfl).wp, wx_c, i2, Zan, (whole_any hs pc).wp]
          rw [show factB (.tup [a, b, c]) = Zlc c from by show (endB a && (endB b && Zlc c)) = _; rw [ea, eb]; rfl]
          first | exact ⟨rfl, rfl⟩ | exact ⟨rfl, trivial⟩ | trivial
    · rw [decide_eq_false (show ¬ (ts.length : Int) = 3 by omega)]
      simp only [Zb0, Bool.false_eq_true, if_false]
      have fb : factB (.tup ts) = false := by
        match ts, h3 with
        | [], _ => rfl
        | [_], _ => rfl
        | [_, _], _ => rfl
        | [_, _, _], h => exact absurd rfl h
        | _ :: _ :: _ :: _ :: _, _ => rfl
      rw [fb]
      first | exact ⟨rfl, rfl⟩ | exact ⟨rfl, trivial⟩ | trivial
  | non => simp only [show subT (kT T.non) "tuple" = false from (by decide), Zb0, Bool.false_eq_true, if_false]; first | exact ⟨rfl, rfl⟩ | exact ⟨rfl, trivial⟩ | trivial
  | bl b => simp only [show subT (kT (T.bl b)) "tuple" = false from (by decide : subT "bool" "tuple" = false), Zb0, Bool.false_eq_true, if_false]; first | exact ⟨rfl, rfl⟩ | exact ⟨rfl, trivial⟩ | trivial
  | int b => simp only [show subT (kT (T.int b)) "tuple" = false from (by decide : subT "int" "tuple" = false), Zb0, Bool.false_eq_true, if_false]; first | exact ⟨rfl, rfl⟩ | exact ⟨rfl, trivial⟩ | trivial
  | str b => simp only [show subT (kT (T.str b)) "tuple" = false from (by decide : subT "str" "tuple" = false), Zb0, Bool.false_eq_true, if_false]; first | exact ⟨rfl, rfl⟩ | exact ⟨rfl, trivial⟩ | trivial
  | lst b => simp only [show subT (kT (T.lst b)) "tuple" = false from (by decide : subT "list" "tuple" = false), Zb0, Bool.false_eq_true, if_false]; first | exact ⟨rfl, rfl⟩ | exact ⟨rfl, trivial⟩ | trivial
  | dic b => simp only [show subT (kT (T.dic b)) "tuple" = false from (by decide : subT "dict" "tuple" = false), Zb0, Bool.false_eq_true, if_false]; first | exact ⟨rfl, rfl⟩ | exact ⟨rfl, trivial⟩ | trivial
  | _ => cases plainF_T p
theorem all_is (l : List Bool) {P : T → Sd → Prop} : wp (Zbw (yAll [.lst (l.map T.bl)] s)) P = P (.bl (l.all id)) s := by
  have e : ∀ l : List Bool, allBT (l.map T.bl) = some l := fun l => by
    induction l with
    | nil => rfl
    | cons a l ih =>
      show (allBT (l.map T.bl)).map _ = _
      rw [ih]; rfl
  show wp (Zbw ((allBT (l.map T.bl)).map fun bs => (T.bl (bs.all id), s))) P = _
  rw [e]
  rfl
theorem conf_any (hs : PureS s) (p : plainC t = true) : Is (Zex [t] s) (.bl (confB t)) s := by
  unfold Zex
  refine Zez hs rfl ?_
  have e0 : List.map some [t] ++ List.replicate (2 - [t].length) none = [some t, none] := rfl
  rw [e0, Za6, Zbr, (isT_any (t := t) (Zaj (i := 0) rfl) (plainC_T p)).wp]
  cases t with
  | lst fs =>
    have p : (fs.all Zlf && decide (fs.length ≤ 1000)) = true := p
    rw [Bool.and_eq_true] at p
    have p1 := List.all_eq_true.mp p.1
    have ln : ∀ P : T → Sd → Prop, wp (Zbw (yLen [.lst fs] s)) P = P (.int (fs.length : Int)) s := fun P => rfl
    simp only [show subT (kT (.lst fs)) "list" = true from (by decide : subT "list" "list" = true), Zb0, if_true]
    rw [Zbr, Zay, Zdk, Zag, (Zaj (i := 0) rfl).wp, Zan, ln, wx_c, Zd2]
    have lc : Is (x_lc (Zff (Zad 0)) (xg_n 1) Zfw (Zbs Zgx (Zaa (Zad 1) Zaf)) [1] [some (.lst fs), none] s) (.lst (fs.map fun f => .bl (factB f))) s :=
      Zk9 fs id (fun f => .bl (factB f)) hs (Zf8 (by rw [List.map_id]; exact Zaj rfl)) (of_decide_eq_true p.2) fun f acc hf _ hp => ⟨_, rfl, rfl, by
        show wp _ _
        simp only [Zao, Zag, Zan]
        rw [(Zaj (i := 1) (t := f) rfl).wp, (fact_any hp (p1 f hf)).wp]
        exact ⟨rfl, rfl⟩⟩
    cases h : decide ((0 : Int) < (fs.length : Int)) with
    | false =>
      simp only [Zb0, Bool.false_eq_true, if_false]
      rw [show confB (.lst fs) = false from by
        show (decide (0 < fs.length) && _) = false
        rw [show decide (0 < fs.length) = false from decide_eq_false (by have := of_decide_eq_false h; omega)]
        rfl]
      first | exact ⟨rfl, rfl⟩ | exact ⟨rfl, trivial⟩ | trivial
    | true =>
      simp only [Zb0, if_true]
      rw [Zdk, Zag, lc.wp, Zan, show (fs.map fun f => T.bl (factB f)) = (fs.map factB).map T.bl from by rw [List.map_map]; rfl, all_is]
      rw [show confB (.lst fs) = (fs.map factB).all id from by
        show (decide (0 < fs.length) && _) = _
        rw [show decide (0 < fs.length) = true from decide_eq_true (by have := of_decide_eq_true h; omega), List.all_map]
        rfl]
      first | exact ⟨rfl, rfl⟩ | exact ⟨rfl, trivial⟩ | trivial
  | non => simp only [show subT (kT T.non) "list" = false from (by decide), Zb0, Bool.false_eq_true, if_false]; first | exact ⟨rfl, rfl⟩ | exact ⟨rfl, trivial⟩ | trivial
  | bl b => simp only [show subT (kT (T.bl b)) "list" = false from (by decide : subT "bool" "list" = false), Zb0, Bool.false_eq_true, if_false]; first | exact ⟨rfl, rfl⟩ | exact ⟨rfl, trivial⟩ | trivial
  | int b => simp only [show subT (kT (T.int b)) "list" = false from (by decide : subT "int" "list" = false), Zb0, Bool.false_eq_true, if_false]; first | exact ⟨rfl, rfl⟩ | exact ⟨rfl, trivial⟩ | trivial
  | str b => simp only [show subT (kT (T.str b)) "list" = false from (by decide : subT "str" "list" = false), Zb0, Bool.false_eq_true, if_false]; first | exact ⟨rfl, rfl⟩ | exact ⟨rfl, trivial⟩ | trivial
  | tup b => simp only [show subT (kT (T.tup b)) "list" = false from (by decide : subT "tuple" "list" = false), Zb0, Bool.false_eq_true, if_false]; first | exact ⟨rfl, rfl⟩ | exact ⟨rfl, trivial⟩ | trivial
  | dic b => simp only [show subT (kT (T.dic b)) "list" = false from (by decide : subT "dict" "list" = false), Zb0, Bool.false_eq_true, if_false]; first | exact ⟨rfl, rfl⟩ | exact ⟨rfl, trivial⟩ | trivial
  | _ => cases plainC_T p
theorem confs_any (hs : PureS s) (p : Zia t = true) : Is (Zc5 [t] s) (.bl (confsB t)) s := by
  unfold Zc5
  refine Zez hs rfl ?_
  have e0 : List.map some [t] ++ List.replicate (2 - [t].length) none = [some t, none] := rfl
  rw [e0, Za6, Zbr]
  first | rw [(isT_any (t := t) (Zaj (i := 0) rfl) (plainCs_T p)).wp] | rw [(isTO_any (t := t) (Zaj (i := 0) rfl) (plainCs_T p)).wp]
  cases t with
  | lst fs =>
    have p : (fs.all plainC && decide (fs.length ≤ 1000)) = true := p
    rw [Bool.and_eq_true] at p
    have p1 := List.all_eq_true.mp p.1
    simp only [show subT (kT (.lst fs)) "list" = true from (by decide : subT "list" "list" = true), Zb0, if_true]
    have lc : Is (x_lc (Zff (Zad 0)) (xg_n 1) Zfw (Zbs Zex (Zaa (Zad 1) Zaf)) [1] [some (.lst fs), none] s) (.lst (fs.map fun f => .bl (confB f))) s :=
      Zk9 fs id (fun f => .bl (confB f)) hs (Zf8 (by rw [List.map_id]; exact Zaj rfl)) (of_decide_eq_true p.2) fun f acc hf _ hp => ⟨_, rfl, rfl, by
        show wp _ _
        simp only [Zao, Zag, Zan]
        rw [(Zaj (i := 1) (t := f) rfl).wp, (conf_any hp (p1 f hf)).wp]
        exact ⟨rfl, rfl⟩⟩
    rw [Zdk, Zag, lc.wp, Zan, show (fs.map fun f => T.bl (confB f)) = (fs.map confB).map T.bl from by rw [List.map_map]; rfl, all_is]
    rw [show confsB (.lst fs) = (fs.map confB).all id from by
      show fs.all confB = _
      rw [List.all_map]
      rfl]
    first | exact ⟨rfl, rfl⟩ | exact ⟨rfl, trivial⟩ | trivial
  | non => simp only [show subT (kT T.non) "list" = false from (by decide), Zb0, Bool.false_eq_true, if_false]; first | exact ⟨rfl, rfl⟩ | exact ⟨rfl, trivial⟩ | trivial
  | bl b => simp only [show subT (kT (T.bl b)) "list" = false from (by decide : subT "bool" "list" = false), Zb0, Bool.false_eq_true, if_false]; first | exact ⟨rfl, rfl⟩ | exact ⟨rfl, trivial⟩ | trivial
  | int b => simp only [show subT (kT (T.int b)) "list" = false from (by decide : subT "int" "list" = false), Zb0, Bool.false_eq_true, if_false]; first | exact ⟨rfl, rfl⟩ | exact ⟨rfl, trivial⟩ | trivial
  | str b => simp only [show subT (kT (T.str b)) "list" = false from (by decide : subT "str" "list" = false), Zb0, Bool.false_eq_true, if_false]; first | exact ⟨rfl, rfl⟩ | exact ⟨rfl, trivial⟩ | trivial
  | tup b => simp only [show subT (kT (T.tup b)) "list" = false from (by decide : subT "tuple" "list" = false), Zb0, Bool.false_eq_true, if_false]; first | exact ⟨rfl, rfl⟩ | exact ⟨rfl, trivial⟩ | trivial
  | dic b => simp only [show subT (kT (T.dic b)) "list" = false from (by decide : subT "dict" "list" = false), Zb0, Bool.false_eq_true, if_false]; first | exact ⟨rfl, rfl⟩ | exact ⟨rfl, trivial⟩ | trivial
  | _ => cases plainCs_T p
end
end Pr
namespace Pr
open PySem L2 Vs
/-! ### what is no list of conflicts is refused, and the error keeps the very list -/
theorem fldX_of {k : Nat} {f : Str} {a : DE} {δ : Ed} {s : Sd} {t : T} (h : Is (a δ s) (.exn k t) s) (hf : FN k = f) : Is (x_fldX k f a δ s) t s := by
  unfold x_fldX
  rw [h.eq, Zce]
  dsimp only
  rw [if_pos ⟨rfl, hf⟩]
  exact ⟨rfl, rfl⟩
theorem isX_of {a : DE} {δ : Ed} {s : Sd} {t : T} (h : Is (a δ s) (.exn 11 t) s) : Is (x_isX [11] 11 a δ s) (.bl true) s := by
  unfold x_isX
  rw [h.eq, Zce]
  exact ⟨rfl, rfl⟩
theorem Zk7 {s0 : Sd} {ts : List T} {d : Nat} (hs : PureS s0) (f : s0.all Zm0 = true) (pt : ∀ t ∈ ts, pure? 11 t = true) (pl : Zia (.lst ts) = true) (nb : confsB (.lst ts) = false) (ud : udat d (.lst (ts ++ [.str "later"])) = true) (hd : d ≤ 50) (hz : usz d (.lst (ts ++ [.str "later"])) ≤ 2500) (hl : ts.length ≤ 1000) :
    wp (Zdn [.cell s0.length] (s0 ++ [.lst ts])) fun t s' => t = .bl true ∧ s' = s0 ++ [.lst (ts ++ [.str "later"])] := by
  obtain ⟨D, hD, ok⟩ := reprU_ok ud hd hz
  unfold Zdn
  refine Zgj ?_
  have e0 : List.map some [T.cell s0.length] ++ List.replicate (3 - [T.cell s0.length].length) none = [some (.cell s0.length), none, none] := rfl
  have pts : pure? PD (.lst ts) = true := List.all_eq_true.mpr pt
  have tk : (s0 ++ [TO.lst ts]).take s0.length = s0 := List.take_left ..
  have mk : x_mkB 7 0 Zb1 Zc5 [some (.cell s0.length), some .non, none] (s0 ++ [.lst ts]) = .exc 11 (.cell s0.length) (s0 ++ [.lst ts]) := by
    unfold x_mkB
    show (match (s0 ++ [TO.lst ts])[s0.length]? with | some (.lst ts) => _ | _ => _) = _
    rw [Zfz]
    dsimp only
    rw [tk, if_pos]
    refine ⟨by simp, f, Zfv _ _ PD FU _ (by decide) pts, ?_⟩
    have := (confs_any (s := s0 ++ [.ins 7 []]) (hs.app rfl) pl).eq
    rw [nb] at this
    exact this
  have tr : xs_tryX [11] 1 2 (x_mkB 7 0 Zb1 Zc5) [some (.cell s0.length), some .non, none] (s0 ++ [.lst ts]) = .ok (.nx [some (.cell s0.length), some (.exn 11 (.cell s0.length)), none]) (s0 ++ [.lst ts]) := by
    unfold xs_tryX
    rw [mk]
    dsimp only
    rw [if_pos (by decide)]
    rfl
  have obl : ∀ us : List T, ob (s0 ++ [.lst us]) (.cell s0.length) = some (.lst us) := fun us => by
    show (match (s0 ++ [TO.lst us])[s0.length]? with | some (.lst ts) => some (TU.lst ts) | some (.dic ts) => some (.dic ts) | some (.ins n ts) => some (.ins n ts) | some (.scr ns) => some (.scr ns) | none => none) = _
    rw [Zfz]
  have ty : tyT (s0 ++ [.lst ts]) (.cell s0.length) = some "list" := by
    unfold tyT
    rw [obl]
  rw [e0, Zax, Zaq, wx_c]
  simp only [Za0, List.set_cons_succ, List.set_cons_zero]
  rw [Zax, show xs_tryX [11] 1 2 _ _ _ = _ from tr, Zdd]
  simp only [Za0]
  rw [Zax, Zdo, Zbx, Zb6, (Zaj (i := 0) (t := .cell s0.length) rfl).wp, ty]
  simp only [Zdm, Zg9, Zby, Zdl, if_true]
  rw [Zdt, Zdv, (Zaj (i := 0) (t := .cell s0.length) rfl).wp]
  refine ⟨Zl4 Zfz, ?_⟩
  rw [Zag, wx_c, Zan, Zl9 Zfz (by show ts.length < 100000; omega), set_last]
  simp only [Za0]
  have hS : PureS (s0 ++ [.lst (ts ++ [T.str "later"])]) := hs.app (List.all_eq_true.mpr fun t ht => by
    rcases List.mem_append.mp ht with q | q
    · exact Zc9 11 (by decide) (pt t q)
    · rw [List.mem_singleton.mp q]; rfl)
  have dc : Zgw (s0 ++ [.lst (ts ++ [T.str "later"])]) 60 (.cell s0.length) = some D := by
    rw [deepU_ob (n := 59) (u := .lst (ts ++ [T.str "later"])) (obl _) rfl]
    exact hD _
  have v0 : Is (Zad 0 [some (T.cell s0.length), some (T.exn 11 (T.cell s0.length)), none] (s0 ++ [.lst (ts ++ [T.str "later"])])) (.cell s0.length) (s0 ++ [.lst (ts ++ [T.str "later"])]) := Zaj rfl
  have v1 : Is (Zad 1 [some (T.cell s0.length), some (T.exn 11 (T.cell s0.length)), none] (s0 ++ [.lst (ts ++ [T.str "later"])])) (.exn 11 (.cell s0.length)) (s0 ++ [.lst (ts ++ [T.str "later"])]) := Zaj rfl
  rw [Za6, Zbr, (isX_of v1).wp]
  simp only [Zb0, if_true]
  rw [Zay, (is_reprU (fldX_of (f := "value") v1 rfl) rfl dc ok).wp, (is_reprU v0 rfl dc ok).wp, Zcj, decide_eq_true rfl]
  simp only [Zcc]
  have tk2 : (s0 ++ [TO.lst (ts ++ [T.str "later"])]).take (s0 ++ [TO.lst ts]).length = s0 ++ [TO.lst (ts ++ [T.str "later"])] := List.take_of_length_le (by simp)
  rw [tk2]
  first | exact ⟨rfl, hS, rfl, rfl⟩ | exact ⟨rfl, hS, trivial, rfl⟩ | trace_state
end Pr
namespace Pr
open PySem L2 Vs
/-! ### facts that are none -/
structure Pl (t : T) : Prop where
  p : Zfg t = true
  u : udat 1 t = true
  z : usz 1 t ≤ 3
  q : pure? 2 t = true
structure PlF (t : T) : Prop where
  p : Zlf t = true
  u : udat 3 t = true
  z : usz 3 t ≤ 20
  q : pure? 5 t = true
  no : factB t = false
noncomputable def oddE20 : List T := [.non, .bl true, .bl false, .str "", .str "A", .str "abcdefghijk", .tup [], .lst [], .int 1, .int (-1), .tup [.int 0], .dic [], .str "a b"]
noncomputable def oddN20 : List T := [.non, .bl true, .bl false, .str "", .str "a", .tup [], .lst [.int 1], .dic []]
theorem oddE20_ok : ∀ t ∈ oddE20, Pl t ∧ endB t = false := by
  have h : oddE20.all (fun t => Zfg t && udat 1 t && decide (usz 1 t ≤ 3) && pure? 2 t && !endB t) = true := by decide +kernel
  intro t ht
  have := List.all_eq_true.mp h t ht
  simp only [Bool.and_eq_true, decide_eq_true_eq, Bool.not_eq_true'] at this
  exact ⟨⟨this.1.1.1.1, this.1.1.1.2, this.1.1.2, this.1.2⟩, this.2⟩
theorem oddN20_ok : ∀ t ∈ oddN20, Pl t ∧ Zlc t = false := by
  have h : oddN20.all (fun t => Zfg t && udat 1 t && decide (usz 1 t ≤ 3) && pure? 2 t && !Zlc t) = true := by decide +kernel
  intro t ht
  have := List.all_eq_true.mp h t ht
  simp only [Bool.and_eq_true, decide_eq_true_eq, Bool.not_eq_true'] at this
  exact ⟨⟨this.1.1.1.1, this.1.1.1.2, this.1.1.2, this.1.2⟩, this.2⟩
theorem Zkn {d : Nat} {t : T} (h : udat 1 t = true) : udat (d + 1) t = true := by
  cases t with
  | lst ts =>
    exact List.all_eq_true.mpr fun u hu => by
      have := List.all_eq_true.mp (show ts.all (udat 0) = true from h) u hu
      cases u <;> (first | (cases d <;> exact this) | cases this)
  | tup ts =>
    exact List.all_eq_true.mpr fun u hu => by
      have := List.all_eq_true.mp (show ts.all (udat 0) = true from h) u hu
      cases u <;> (first | (cases d <;> exact this) | cases this)
  | dic ts =>
    exact List.all_eq_true.mpr fun u hu => by
      have := List.all_eq_true.mp (show (ts.all fun p => ukey p.1 && udat 0 p.2) = true from h) u hu
      rw [Bool.and_eq_true] at this ⊢
      refine ⟨this.1, ?_⟩
      obtain ⟨k, v⟩ := u
      have := this.2
      cases v <;> (first | (cases d <;> exact this) | cases this)
  | _ => exact h
end Pr
namespace Pr
open PySem L2 Vs
/-! ### a fact that is none, drawn -/
section
variable {s : Sd} {k b : Nat} {f : Fc} {o p : T}
noncomputable abbrev of5 (f : Fc) (o p : T) : List T := [.tup [o, enT f.b, .int f.k], .tup [enT f.a, o, .int f.k], .tup [enT f.a, enT f.b, p], .tup [enT f.a, enT f.b], .tup [enT f.a, enT f.b, .int f.k, .int 0]]
noncomputable abbrev of9 (f : Fc) (o : T) : List T := [.lst [enT f.a, enT f.b, .int f.k], .non, .int 0, .str "a", .tup [f.t], .dic [], .tup [], .tup [o, o, .int f.k], .tup [enT f.a, enT f.b, .lst [.int f.k]]]
theorem of_e (a2 a3 a4 : Option T) : Is ((Zej (Zaa (x_c .non) (Zaa (x_c (.bl true)) (Zaa (x_c (.bl false)) (Zaa (x_c (.str "")) (Zaa (x_c (.str "A")) (Zaa (x_c (.str "abcdefghijk")) (Zaa (Zep Zaf) (Zaa (Zej Zaf) (Zaa (x_c (.int 1)) (Zaa (x_neg (x_c (.int 1))) (Zaa (Zep (Zaa (x_c (.int 0)) Zaf)) (Zaa Zi5 (Zaa (x_c (.str "a b")) Zaf)))))))))))))) [some (.cell k), some f.t, a2, a3, a4] s) (.lst oddE20) s := ⟨rfl, rfl⟩
theorem of_n (a2 a3 a4 : Option T) : Is ((Zej (Zaa (x_c .non) (Zaa (x_c (.bl true)) (Zaa (x_c (.bl false)) (Zaa (x_c (.str "")) (Zaa (x_c (.str "a")) (Zaa (Zep Zaf) (Zaa (Zej (Zaa (x_c (.int 1)) Zaf)) (Zaa Zi5 Zaf))))))))) [some (.cell k), some f.t, a2, a3, a4] s) (.lst oddN20) s := ⟨rfl, rfl⟩
theorem of_5 (a4 : Option T) : Is ((Zej (Zaa (Zep (Zaa (Zad 2) (Zaa (Zap yIx (Zad 1) (x_c (.int 1))) (Zaa (Zap yIx (Zad 1) (x_c (.int 2))) Zaf)))) (Zaa (Zep (Zaa (Zap yIx (Zad 1) (x_c (.int 0))) (Zaa (Zad 2) (Zaa (Zap yIx (Zad 1) (x_c (.int 2))) Zaf)))) (Zaa (Zep (Zaa (Zap yIx (Zad 1) (x_c (.int 0))) (Zaa (Zap yIx (Zad 1) (x_c (.int 1))) (Zaa (Zad 3) Zaf)))) (Zaa (x_sl (Zad 1) Ziv (Zft (x_c (.int 2)))) (Zaa (Zap yAdd (Zad 1) (Zep (Zaa (x_c (.int 0)) Zaf))) Zaf)))))) [some (.cell k), some f.t, some o, some p, a4] s) (.lst (of5 f o p)) s := ⟨rfl, rfl⟩
theorem of_14 : Is ((Zap yAdd (Zad 4) (Zej (Zaa (x_cb Zjq (Zaa (Zad 1) Zaf)) (Zaa (x_c .non) (Zaa (x_c (.int 0)) (Zaa (x_c (.str "a")) (Zaa (Zep (Zaa (Zad 1) Zaf)) (Zaa Zi5 (Zaa (Zep Zaf) (Zaa (Zep (Zaa (Zad 2) (Zaa (Zad 2) (Zaa (Zap yIx (Zad 1) (x_c (.int 2))) Zaf)))) (Zaa (Zep (Zaa (Zap yIx (Zad 1) (x_c (.int 0))) (Zaa (Zap yIx (Zad 1) (x_c (.int 1))) (Zaa (Zej (Zaa (Zap yIx (Zad 1) (x_c (.int 2))) Zaf)) Zaf)))) Zaf))))))))))) [some (.cell k), some f.t, some o, some p, some (.lst (of5 f o p))] s) (.lst (of5 f o p ++ of9 f o)) s := ⟨rfl, rfl⟩
theorem pl_en {e : Option Str} (h : ∀ x, e = some x → isNm x = true) : Pl (enT e) ∧ (∀ x, e = some x → ustr x = true) := by
  have hu : ∀ x, e = some x → ustr x = true := fun x q => by
    have hx := h x q
    unfold ustr
    rw [Bool.and_eq_true]
    refine ⟨List.all_eq_true.mpr fun c hc => decide_eq_true (by have := Zjh hx hc; omega), decide_eq_true ?_⟩
    have l := (Zg4 hx).2
    have b : x.cps.toList.length ≤ 10 := l
    rw [Array.length_toList] at b
    omega
  refine ⟨?_, hu⟩
  cases e with
  | none => exact ⟨rfl, by decide, by decide, rfl⟩
  | some x =>
    have hx := h x rfl
    refine ⟨?_, hu x rfl, by show 1 ≤ 3; decide, rfl⟩
    show (decide (x.length ≤ LIM) && (isNm x || _)) = true
    rw [hx, Bool.true_or, Bool.and_true]
    exact decide_eq_true (by have := (Zg4 hx).2; show _ ≤ 100000; omega)
theorem pl_int {i : Int} (h : i.natAbs < 10 ^ 40) : Pl (.int i) := ⟨rfl, decide_eq_true h, by show 1 ≤ 3; decide, rfl⟩
theorem Zkc {t : T} (h : usz 1 t ≤ 3) (ht : udat 1 t = true) (d : Nat) : usz (d + 1) t ≤ 3 := by
  have z : ∀ (n : Nat) (t : T), udat 0 t = true → usz n t = 1 := fun n t h => by
    cases t with
    | lst ts => cases h
    | tup ts => cases h
    | dic ts => cases h
    | _ => cases n <;> rfl
  have m : ∀ ts : List T, ts.all (udat 0) = true → (ts.map (usz d)).sum = (ts.map (usz 0)).sum := fun ts => by
    induction ts with
    | nil => exact fun _ => rfl
    | cons t ts ih =>
      intro h
      rw [List.all_cons, Bool.and_eq_true] at h
      rw [List.map_cons, List.map_cons, List.sum_cons, List.sum_cons, ih h.2, z d t h.1, z 0 t h.1]
  cases t with
  | lst ts =>
    have h : 1 + (ts.map (usz 0)).sum ≤ 3 := h
    show 1 + (ts.map (usz d)).sum ≤ 3
    rw [m ts ht]; exact h
  | tup ts =>
    have h : 1 + (ts.map (usz 0)).sum ≤ 3 := h
    show 1 + (ts.map (usz d)).sum ≤ 3
    rw [m ts ht]; exact h
  | dic kvs =>
    have m2 : ∀ ts : List (Key × T), (ts.all fun p => ukey p.1 && udat 0 p.2) = true → (ts.map fun p => 1 + usz d p.2).sum = (ts.map fun p => 1 + usz 0 p.2).sum := fun ts => by
      induction ts with
      | nil => exact fun _ => rfl
      | cons t ts ih =>
        intro h
        rw [List.all_cons, Bool.and_eq_true, Bool.and_eq_true] at h
        rw [List.map_cons, List.map_cons, List.sum_cons, List.sum_cons, ih h.2, z d t.2 h.1.2, z 0 t.2 h.1.2]
    have h : 1 + (kvs.map fun p => 1 + usz 0 p.2).sum ≤ 3 := h
    show 1 + (kvs.map fun p => 1 + usz d p.2).sum ≤ 3
    rw [m2 kvs ht]; exact h
  | _ => cases d <;> exact h
theorem plF_of {t : T} (h : Pl t) (hp : Zlf t = true) (no : factB t = false) : PlF t := ⟨hp, Zkn h.u, by have : usz 3 t ≤ 3 := Zkc h.z h.u 2; omega, Zc9 2 (by decide) h.q, no⟩
theorem Zi8 {ts : List T} (h : ∀ t ∈ ts, Pl t) (hl : ts.length ≤ 4) (no : factB (.tup ts) = false) : PlF (.tup ts) := by
  refine ⟨?_, List.all_eq_true.mpr fun t ht => Zkn (h t ht).u, ?_, List.all_eq_true.mpr fun t ht => Zc9 2 (by decide) (h t ht).q, no⟩
  · show (ts.all Zfg && decide (ts.length ≤ 1000)) = true
    rw [Bool.and_eq_true]
    exact ⟨List.all_eq_true.mpr fun t ht => (h t ht).p, decide_eq_true (by omega)⟩
  · show 1 + (ts.map (usz 2)).sum ≤ 20
    have : ∀ ts : List T, (∀ t ∈ ts, Pl t) → (ts.map (usz 2)).sum ≤ 3 * ts.length := fun ts => by
      induction ts with
      | nil => exact fun _ => Nat.le_refl _
      | cons t ts ih =>
        intro h
        have h1 := h t List.mem_cons_self
        have : usz 2 t ≤ 3 := Zkc h1.z h1.u 1
        have := ih fun u hu => h u (List.mem_cons_of_mem _ hu)
        rw [List.map_cons, List.sum_cons, List.length_cons]
        omega
    have := this ts h
    omega
end
end Pr
namespace Pr
open PySem L2 Vs
/-! ### a fact that is none, drawn -/
section
variable {s : Sd} {k b : Nat} {f : Fc} {o p : T}
theorem of_ok (hf : f.snd) (hk : f.k.natAbs < 10 ^ 40) (po : Pl o) (no : endB o = false) (pp : Pl p) (np : Zlc p = false) : ∀ t ∈ of5 f o p ++ of9 f o, PlF t := by
  have pa := (pl_en hf.1).1
  have pb := (pl_en hf.2).1
  have pk := pl_int hk
  have pf : ∀ t ∈ [enT f.a, enT f.b, T.int f.k], Pl t := fun t ht => by
    simp only [List.mem_cons, List.not_mem_nil, or_false] at ht
    rcases ht with rfl | rfl | rfl
    · exact pa
    · exact pb
    · exact pk
  intro t ht
  simp only [of5, of9, List.cons_append, List.nil_append, List.mem_cons, List.not_mem_nil, or_false] at ht
  rcases ht with rfl | rfl | rfl | rfl | rfl | rfl | rfl | rfl | rfl | rfl | rfl | rfl | rfl | rfl
  · refine Zi8 (fun t ht => ?_) (by simp) ?_
    · simp only [List.mem_cons, List.not_mem_nil, or_false] at ht
      rcases ht with rfl | rfl | rfl
      · exact po
      · exact pb
      · exact pk
    · show (endB o && _) = false
      rw [no]; rfl
  · refine Zi8 (fun t ht => ?_) (by simp) ?_
    · simp only [List.mem_cons, List.not_mem_nil, or_false] at ht
      rcases ht with rfl | rfl | rfl
      · exact pa
      · exact po
      · exact pk
    · show (endB _ && (endB o && _)) = false
      rw [no, Bool.false_and, Bool.and_false]
  · refine Zi8 (fun t ht => ?_) (by simp) ?_
    · simp only [List.mem_cons, List.not_mem_nil, or_false] at ht
      rcases ht with rfl | rfl | rfl
      · exact pa
      · exact pb
      · exact pp
    · show (endB _ && (endB _ && Zlc p)) = false
      rw [np, Bool.and_false, Bool.and_false]
  · exact Zi8 (fun t ht => pf t (by simp only [List.mem_cons, List.not_mem_nil, or_false] at ht ⊢; rcases ht with rfl | rfl <;> simp)) (by simp) rfl
  · refine Zi8 (fun t ht => ?_) (by simp) rfl
    simp only [List.mem_cons, List.not_mem_nil, or_false] at ht
    rcases ht with rfl | rfl | rfl | rfl
    · exact pa
    · exact pb
    · exact pk
    · exact pl_int (by decide)
  · refine ⟨rfl, List.all_eq_true.mpr fun t ht => Zkn (pf t ht).u, ?_, List.all_eq_true.mpr fun t ht => Zc9 2 (by decide) (pf t ht).q, rfl⟩
    have z1 : usz 2 (enT f.a) ≤ 3 := Zkc pa.z pa.u 1
    have z2 : usz 2 (enT f.b) ≤ 3 := Zkc pb.z pb.u 1
    have z3 : usz 2 (T.int f.k) ≤ 3 := Zkc pk.z pk.u 1
    show 1 + ([enT f.a, enT f.b, T.int f.k].map (usz 2)).sum ≤ 20
    simp only [List.map_cons, List.map_nil, List.sum_cons, List.sum_nil]
    omega
  · exact plF_of ⟨rfl, by decide, by decide, rfl⟩ rfl rfl
  · exact plF_of ⟨rfl, by decide, by decide, rfl⟩ rfl rfl
  · exact plF_of ⟨by decide +kernel, by decide +kernel, by decide, rfl⟩ (by decide +kernel) rfl
  · refine ⟨rfl, List.all_eq_true.mpr fun t ht => ?_, ?_, List.all_eq_true.mpr fun t ht => ?_, rfl⟩
    · rw [List.mem_singleton.mp ht]
      exact List.all_eq_true.mpr fun t ht => (pf t ht).u
    · have z1 := pa.z
      have z2 := pb.z
      have z3 := pk.z
      show 1 + ([f.t].map (usz 2)).sum ≤ 20
      have : usz 2 f.t = 1 + ([enT f.a, enT f.b, T.int f.k].map (usz 1)).sum := rfl
      simp only [List.map_cons, List.map_nil, List.sum_cons, List.sum_nil] at this ⊢
      omega
    · rw [List.mem_singleton.mp ht]
      exact Zc9 2 (by decide) (Fc.pure f)
  · exact plF_of ⟨rfl, by decide, by decide, rfl⟩ rfl rfl
  · exact plF_of ⟨rfl, by decide, by decide, rfl⟩ rfl rfl
  · refine Zi8 (fun t ht => ?_) (by simp) ?_
    · simp only [List.mem_cons, List.not_mem_nil, or_false] at ht
      rcases ht with rfl | rfl | rfl
      · exact po
      · exact po
      · exact pk
    · show (endB o && _) = false
      rw [no]; rfl
  · refine Zi8 (fun t ht => ?_) (by simp) ?_
    · simp only [List.mem_cons, List.not_mem_nil, or_false] at ht
      rcases ht with rfl | rfl | rfl
      · exact pa
      · exact pb
      · refine ⟨rfl, ?_, by show 1 + (1 + 0) ≤ 3; decide, rfl⟩
        show ([T.int f.k].all (udat 0)) = true
        rw [List.all_cons, show udat 0 (.int f.k) = true from decide_eq_true hk]
        rfl
    · show (endB _ && (endB _ && false)) = false
      rw [Bool.and_false, Bool.and_false]
theorem odd_fact2 (hf : f.snd) (hk : f.k.natAbs < 10 ^ 40) (C : Cx2 s k b) (hb : b + 18 ≤ 2 ^ 60) : wp (Zfj [.cell k, f.t] s) fun t s' => PlF t ∧ Cx2 s' k (b + 18) ∧ Sm k s s' := by
  unfold Zfj
  refine Zgj ?_
  have e0 : List.map some [T.cell k, f.t] ++ List.replicate (5 - [T.cell k, f.t].length) none = [some (.cell k), some f.t, none, none, none] := rfl
  rw [e0, Zax, Zaq, Zay, (of_e none none none).wp, Zao, Zag, (Zaj (i := 0) rfl).wp, Zag, wx_c, Zan]
  refine Zas (Zil (n := 13) C (by omega) (by decide) (by decide)) ?_
  rintro _ s1 ⟨r1, rfl, r10, r11, c1, m1⟩
  refine Zgl (.inl rfl) r10 (by simpa [oddE20] using r11) fun o ho => ?_
  obtain ⟨po, no⟩ := oddE20_ok o ho
  simp only [Za0, List.set_cons_succ, List.set_cons_zero]
  rw [Zax, Zaq, Zay, (of_n (some o) none none).wp, Zao, Zag, (Zaj (i := 0) rfl).wp, Zag, wx_c, Zan]
  refine Zas (Zil (n := 8) c1 (by omega) (by decide) (by decide)) ?_
  rintro _ s2 ⟨r2, rfl, r20, r21, c2, m2⟩
  refine Zgl (.inl rfl) r20 (by simpa [oddN20] using r21) fun p hp => ?_
  obtain ⟨pp, np⟩ := oddN20_ok p hp
  simp only [Za0, List.set_cons_succ, List.set_cons_zero]
  rw [Zax, Zaq, (of_5 none).wp]
  simp only [Za0, List.set_cons_succ, List.set_cons_zero]
  rw [Zax, Zaq, of_14.wp]
  simp only [Za0, List.set_cons_succ, List.set_cons_zero]
  have all := of_ok hf hk po no pp np
  have ln : (of5 f o p ++ of9 f o).length = 14 := rfl
  generalize of5 f o p ++ of9 f o = l at all ln
  rw [Za6, Zay, (Zaj (i := 4) (t := .lst l) rfl).wp, Zao, Zag, (Zaj (i := 0) rfl).wp, Zag, Zdk, Zag, (Zaj (i := 4) (t := .lst l) rfl).wp, Zan, Zne, Zan, ln]
  refine Zas (Zil (n := ((14 : Nat) : Int)) c2 (by omega) (by decide) (by decide)) ?_
  rintro _ s3 ⟨r3, rfl, r30, r31, c3, m3⟩
  refine Zgl (.inl rfl) r30 (by rw [ln]; exact r31) fun t ht => ?_
  have m := (m1.trans m2).trans m3
  have ft := all t ht
  simp only [Zcc]
  rw [m.take]
  exact ⟨Zc9 5 (by decide) ft.q, c3.pure, ft, c3.mono (by omega) hb, m⟩
end
end Pr
namespace Pr
open PySem L2 Vs
/-! ### what is put among conflicts, and is none -/
structure PlC (t : T) : Prop where
  p : plainC t = true
  u : udat 4 t = true
  z : usz 4 t ≤ 120
  q : pure? 6 t = true
structure Fc20 (f : Fc) : Prop where
  sd : f.snd
  k : f.k.natAbs < 10 ^ 40
structure Cs20 (cs : List (List Fc)) : Prop where
  len : cs.length ≤ 3
  ne : ∀ fs ∈ cs, fs ≠ []
  len2 : ∀ fs ∈ cs, fs.length ≤ 4
  fc : ∀ fs ∈ cs, ∀ f ∈ fs, Fc20 f
theorem fc_pl {f : Fc} (h : Fc20 f) : (∀ t ∈ [enT f.a, enT f.b, T.int f.k], Pl t) := fun t ht => by
  simp only [List.mem_cons, List.not_mem_nil, or_false] at ht
  rcases ht with rfl | rfl | rfl
  · exact (pl_en h.sd.1).1
  · exact (pl_en h.sd.2).1
  · exact pl_int h.k
structure PlG (t : T) : Prop where
  p : Zlf t = true
  u : udat 3 t = true
  z : usz 3 t ≤ 20
  q : pure? 5 t = true
theorem PlF.g {t : T} (h : PlF t) : PlG t := ⟨h.p, h.u, h.z, h.q⟩
theorem fc_g {f : Fc} (h : Fc20 f) : PlG f.t := by
  have pf := fc_pl h
  refine ⟨?_, List.all_eq_true.mpr fun t ht => Zkn (pf t ht).u, ?_, Zc9 2 (by decide) (Fc.pure f)⟩
  · show ([enT f.a, enT f.b, T.int f.k].all Zfg && decide (3 ≤ 1000)) = true
    rw [Bool.and_eq_true]
    exact ⟨List.all_eq_true.mpr fun t ht => (pf t ht).p, rfl⟩
  · have z1 : usz 2 (enT f.a) ≤ 3 := Zkc (pl_en h.sd.1).1.z (pl_en h.sd.1).1.u 1
    have z2 : usz 2 (enT f.b) ≤ 3 := Zkc (pl_en h.sd.2).1.z (pl_en h.sd.2).1.u 1
    have z3 : usz 2 (T.int f.k) ≤ 3 := Zkc (pl_int h.k).z (pl_int h.k).u 1
    show 1 + ([enT f.a, enT f.b, T.int f.k].map (usz 2)).sum ≤ 20
    simp only [List.map_cons, List.map_nil, List.sum_cons, List.sum_nil]
    omega
theorem sum_g {n m : Nat} : ∀ {ts : List T}, (∀ t ∈ ts, usz n t ≤ m) → (ts.map (usz n)).sum ≤ m * ts.length
  | [], _ => Nat.le_refl _
  | t :: ts, h => by
    rw [List.map_cons, List.sum_cons, List.length_cons, Nat.mul_succ]
    have := h t List.mem_cons_self
    have := sum_g fun u hu => h u (List.mem_cons_of_mem _ hu)
    omega
theorem plC_lst {ts : List T} (h : ∀ t ∈ ts, PlG t) (hl : ts.length ≤ 5) : PlC (.lst ts) := by
  refine ⟨?_, List.all_eq_true.mpr fun t ht => (h t ht).u, ?_, List.all_eq_true.mpr fun t ht => (h t ht).q⟩
  · show (ts.all Zlf && decide (ts.length ≤ 1000)) = true
    rw [Bool.and_eq_true]
    exact ⟨List.all_eq_true.mpr fun t ht => (h t ht).p, decide_eq_true (by omega)⟩
  · show 1 + (ts.map (usz 3)).sum ≤ 120
    have := sum_g (n := 3) (m := 20) fun t ht => (h t ht).z
    have : (ts.map (usz 3)).sum ≤ 20 * ts.length := this
    omega
theorem fs_c {fs : List Fc} (h : ∀ f ∈ fs, Fc20 f) (hl : fs.length ≤ 4) : PlC (fsT fs) := plC_lst (fun t ht => by
  obtain ⟨f, hf, rfl⟩ := List.mem_map.mp ht
  exact fc_g (h f hf)) (by rw [List.length_map]; omega)
/-- what may stand for a conflict -/
noncomputable def bad8 (fs : List Fc) (p : Nat) (o : T) : List T := [.lst ((fs.map Fc.t).take p ++ [o] ++ (fs.map Fc.t).drop (p + 1)), .lst [], .tup (fs.map Fc.t), .non, (fs.map Fc.t).headD .non, .int 0, .str "", .lst [fsT fs]]
theorem bad8_ok {fs : List Fc} {p : Nat} {o : T} (h : ∀ f ∈ fs, Fc20 f) (ne : fs ≠ []) (hl : fs.length ≤ 4) (po : PlF o) : ∀ t ∈ bad8 fs p o, PlC t ∧ confB t = false := by
  have g : ∀ t ∈ fs.map Fc.t, PlG t := fun t ht => by
    obtain ⟨f, hf, rfl⟩ := List.mem_map.mp ht
    exact fc_g (h f hf)
  intro t ht
  simp only [bad8, List.mem_cons, List.not_mem_nil, or_false] at ht
  rcases ht with rfl | rfl | rfl | rfl | rfl | rfl | rfl | rfl
  · refine ⟨plC_lst (fun t ht => ?_) ?_, ?_⟩
    · rcases List.mem_append.mp ht with q | q
      · rcases List.mem_append.mp q with q | q
        · exact g t (List.mem_of_mem_take q)
        · rw [List.mem_singleton.mp q]; exact po.g
      · exact g t (List.mem_of_mem_drop q)
    · simp only [List.length_append, List.length_take, List.length_drop, List.length_map, List.length_singleton]
      omega
    · show (_ && List.all _ factB) = false
      rw [List.all_append, List.all_append, show ([o] : List T).all factB = false from by rw [List.all_cons, po.no]; rfl, Bool.and_false, Bool.false_and, Bool.and_false]
  · exact ⟨plC_lst (fun _ h => nomatch h) (by decide), rfl⟩
  · refine ⟨⟨rfl, ?_, ?_, ?_⟩, rfl⟩
    · exact List.all_eq_true.mpr fun t ht => (g t ht).u
    · show 1 + ((fs.map Fc.t).map (usz 3)).sum ≤ 120
      have : ((fs.map Fc.t).map (usz 3)).sum ≤ 20 * (fs.map Fc.t).length := sum_g fun t ht => (g t ht).z
      rw [List.length_map] at this
      omega
    · exact List.all_eq_true.mpr fun t ht => (g t ht).q
  · exact ⟨⟨rfl, rfl, by decide, rfl⟩, rfl⟩
  · obtain ⟨f, r, rfl⟩ : ∃ f r, fs = f :: r := by
      cases fs with
      | nil => exact absurd rfl ne
      | cons f r => exact ⟨f, r, rfl⟩
    have pf := fc_pl (h f List.mem_cons_self)
    refine ⟨⟨rfl, List.all_eq_true.mpr fun t ht => Zkn (pf t ht).u, ?_, Zc9 2 (by decide) (Fc.pure f)⟩, rfl⟩
    show 1 + ([enT f.a, enT f.b, T.int f.k].map (usz 3)).sum ≤ 120
    have : ([enT f.a, enT f.b, T.int f.k].map (usz 3)).sum ≤ 3 * 3 := sum_g fun t ht => Zkc (pf t ht).z (pf t ht).u 2
    omega
  · exact ⟨⟨rfl, by decide, by decide, rfl⟩, rfl⟩
  · exact ⟨⟨by decide +kernel, by decide +kernel, by decide, rfl⟩, rfl⟩
  · have c := fs_c h hl
    refine ⟨⟨?_, ?_, ?_, ?_⟩, ?_⟩
    · rfl
    · show ([fsT fs].all (udat 3)) = true
      rw [List.all_cons]
      rw [show udat 3 (fsT fs) = true from List.all_eq_true.mpr fun t ht => by
        obtain ⟨f, hf, rfl⟩ := List.mem_map.mp ht
        exact List.all_eq_true.mpr fun t ht => Zkn (fc_pl (h f hf) t ht).u]
      rfl
    · have : usz 3 (fsT fs) = 1 + ((fs.map Fc.t).map (usz 2)).sum := rfl
      have z : ((fs.map Fc.t).map (usz 2)).sum ≤ 10 * (fs.map Fc.t).length := sum_g fun t ht => by
        obtain ⟨f, hf, rfl⟩ := List.mem_map.mp ht
        have pf := fc_pl (h f hf)
        show 1 + ([enT f.a, enT f.b, T.int f.k].map (usz 1)).sum ≤ 10
        have : ([enT f.a, enT f.b, T.int f.k].map (usz 1)).sum ≤ 3 * 3 := sum_g fun t ht => (pf t ht).z
        omega
      rw [List.length_map] at z
      show 1 + ([fsT fs].map (usz 3)).sum ≤ 120
      simp only [List.map_cons, List.map_nil, List.sum_cons, List.sum_nil]
      omega
    · show ([fsT fs].all (pure? 5)) = true
      rw [List.all_cons, show pure? 5 (fsT fs) = true from Zc9 3 (by decide) (Zhq fs)]
      rfl
    · rfl
end Pr
namespace Pr
open PySem L2 Vs
/-! ### conflicts with one thing among them that is none, drawn -/
theorem wp_dfnR {k : Nat} {b : DSt} {ts : List T} {s : Sd} {P : T → Sd → Prop} (h : wp (b (ts.map some ++ List.replicate (k - ts.length) none) s) fun f s1 => match f with
      | .rt t => P t s1
      | .nx _ => P .non s1
      | _ => False) : wp (dfnOfR k b ts s) P := by
  unfold dfnOfR
  rw [Zb7]
  refine Zas h fun f s1 h => ?_
  cases f with
  | rt t => exact h
  | nx δ => exact h
  | bk δ => exact h
  | ct δ => exact h
theorem is_addC {a b : DE} {δ : Ed} {s : Sd} {xs ys : List T} (ha : Is (a δ s) (.lst xs) s) (hb : Is (b δ s) (.lst ys) s) (hl : xs.length + ys.length ≤ LIM) : x_addC a b δ s = .ok (.cell s.length) (s ++ [.lst (xs ++ ys)]) := by
  unfold x_addC
  rw [ha.eq, Zce, hb.eq, Zce]
  show (if xs.length + ys.length ≤ LIM then _ else _) = _
  rw [if_pos hl]
section
variable {s : Sd} {k b : Nat} {cs : List (List Fc)}
theorem copied_is (hs : PureS s) (hl : cs.length ≤ 1000) : Is (Zdx [.lst (cs.map fsT)] s) (.lst (cs.map fsT)) s := by
  unfold Zdx
  refine Zez hs (List.all_eq_true.mpr fun t ht => by
    obtain ⟨fs, _, rfl⟩ := List.mem_map.mp ht
    exact Zc9 3 (by decide) (Zhq fs)) ?_
  have e0 : List.map some [T.lst (cs.map fsT)] ++ List.replicate (2 - [T.lst (cs.map fsT)].length) none = [some (.lst (cs.map fsT)), none] := rfl
  have lc : Is (x_lc (Zff (Zad 0)) (xg_n 1) Zfw (x_cb Zjq (Zaa (Zad 1) Zaf)) [1] [some (.lst (cs.map fsT)), none] s) (.lst (cs.map fsT)) s :=
    Zk9 cs fsT fsT hs (Zf8 (Zaj rfl)) hl fun fs acc _ _ hp => ⟨_, rfl, Zc9 3 (by decide) (Zhq fs), by
      show wp _ _
      rw [Zdk, Zag, (Zaj (i := 1) (t := fsT fs) rfl).wp, Zan, show ∀ (s : Sd) (P : T → Sd → Prop), wp (Zbw (Zjq [fsT fs] s)) P = P (fsT fs) s from fun s P => list_lst]
      exact ⟨rfl, rfl⟩⟩
  rw [e0, Za6, lc.wp]
  first | exact ⟨rfl, rfl⟩ | trivial
/-- the conflicts, one of them spoilt -/
structure Spoilt (ts : List T) : Prop where
  p : Zia (.lst ts) = true
  no : confsB (.lst ts) = false
  u : udat 5 (.lst (ts ++ [.str "later"])) = true
  z : usz 5 (.lst (ts ++ [.str "later"])) ≤ 2500
  q : ∀ t ∈ ts, pure? 11 t = true
  len : ts.length ≤ 1000
theorem spoilt_of {rows : List (List Fc)} {a : Nat} {t : T} (h : ∀ fs ∈ rows, ∀ f ∈ fs, Fc20 f) (h2 : ∀ fs ∈ rows, fs.length ≤ 4) (hl : rows.length ≤ 3) (c : PlC t) (no : confB t = false) : Spoilt ((rows.map fsT).take a ++ [t] ++ (rows.map fsT).drop (a + 1)) := by
  have g : ∀ u ∈ rows.map fsT, PlC u := fun u hu => by
    obtain ⟨fs, hf, rfl⟩ := List.mem_map.mp hu
    exact fs_c (h fs hf) (h2 fs hf)
  obtain ⟨ts, hts⟩ : ∃ ts, ts = (rows.map fsT).take a ++ [t] ++ (rows.map fsT).drop (a + 1) := ⟨_, rfl⟩
  have gt : ∀ u ∈ ts, PlC u := fun u hu => by
    rw [hts] at hu
    rcases List.mem_append.mp hu with q | q
    · rcases List.mem_append.mp q with q | q
      · exact g u (List.mem_of_mem_take q)
      · rw [List.mem_singleton.mp q]; exact c
    · exact g u (List.mem_of_mem_drop q)
  have ln : ts.length ≤ 4 := by
    rw [hts]
    simp only [List.length_append, List.length_take, List.length_drop, List.length_map, List.length_singleton]
    omega
  have nb : ts.all confB = false := by
    rw [hts, List.all_append, List.all_append, show ([t] : List T).all confB = false from by rw [List.all_cons, no]; rfl, Bool.and_false, Bool.false_and]
  rw [← hts]
  refine ⟨?_, nb, ?_, ?_, fun u hu => Zc9 6 (by decide) (gt u hu).q, by omega⟩
  · show (ts.all plainC && decide (ts.length ≤ 1000)) = true
    rw [Bool.and_eq_true]
    exact ⟨List.all_eq_true.mpr fun u hu => (gt u hu).p, decide_eq_true (by omega)⟩
  · show ((ts ++ [T.str "later"]).all (udat 4)) = true
    rw [List.all_append, List.all_eq_true.mpr fun u hu => (gt u hu).u]
    decide +kernel
  · show 1 + ((ts ++ [T.str "later"]).map (usz 4)).sum ≤ 2500
    have : (ts.map (usz 4)).sum ≤ 120 * ts.length := sum_g fun u hu => (gt u hu).z
    rw [List.map_append, List.sum_append]
    have e : ([T.str "later"].map (usz 4)).sum = 1 := rfl
    omega
theorem spoilt2 (G : Cs20 cs) (l2 : cs.length ≤ 2) (C : Cx2 s k b) (hb : b + 60 ≤ 2 ^ 60) : wp (Zey [.cell k, .lst (cs.map fsT)] s) fun t s' => ∃ (s1 : Sd) (ts : List T), t = .cell s1.length ∧ s' = s1 ++ [.lst ts] ∧ Cx2 s1 k (b + 60) ∧ Sm k s s1 ∧ Spoilt ts := by
  have hs := C.pure
  unfold Zey
  refine wp_dfnR ?_
  have e0 : List.map some [T.cell k, T.lst (cs.map fsT)] ++ List.replicate (8 - [T.cell k, T.lst (cs.map fsT)].length) none = [some (.cell k), some (.lst (cs.map fsT)), none, none, none, none, none, none] := rfl
  have s1 : Is ((Zej (Zaa (Zep (Zaa (x_c (.str "a")) (Zaa (x_c (.int 0)) (Zaa (x_c (.int 1)) Zaf)))) Zaf)) [some (.cell k), some (.lst (cs.map fsT)), none, none, none, none, none, none] s) (fsT [⟨some "a", none, 1⟩]) s := ⟨rfl, rfl⟩
  rw [e0, Zax, Zaq, s1.wp]
  simp only [Za0, List.set_cons_succ, List.set_cons_zero]
  rw [Zax, Zaq, Zay, Zao, Zag, (Zaj (i := 1) rfl).wp, Zan, (copied_is hs (by omega)).wp, Zb2, Zag, (Zaj (i := 2) rfl).wp, Zan]
  refine ⟨by show 1 ≤ 100000; decide, ?_⟩
  rw [Zhc]
  refine ⟨by rw [List.length_map]; show _ + 1 ≤ 100000; omega, ?_⟩
  obtain ⟨rows, hr⟩ : ∃ rows, rows = cs ++ [[(⟨some "a", none, 1⟩ : Fc)]] := ⟨_, rfl⟩
  have er : cs.map fsT ++ [fsT [(⟨some "a", none, 1⟩ : Fc)]] = rows.map fsT := by rw [hr, List.map_append]; rfl
  have h : ∀ fs ∈ rows, (∀ f ∈ fs, Fc20 f) ∧ fs ≠ [] ∧ fs.length ≤ 4 := fun fs hf => by
    rw [hr] at hf
    rcases List.mem_append.mp hf with q | q
    · exact ⟨G.fc fs q, G.ne fs q, G.len2 fs q⟩
    · rw [List.mem_singleton.mp q]
      refine ⟨fun f hf => ?_, List.cons_ne_nil _ _, by show 1 ≤ 4; decide⟩
      rw [List.mem_singleton.mp hf]
      exact ⟨⟨fun x q => by cases q; decide +kernel, fun x q => (nomatch q)⟩, by decide⟩
  have hl : rows.length ≤ 3 ∧ 1 ≤ rows.length := by rw [hr, List.length_append, List.length_singleton]; omega
  rw [er]
  clear er hr
  simp only [Za0, List.set_cons_succ, List.set_cons_zero]
  rw [Zax, Zaq, Zao, Zag, (Zaj (i := 0) rfl).wp, Zag, Zdk, Zag, (Zaj (i := 3) (t := .lst (rows.map fsT)) rfl).wp, Zan, Zne, Zan, List.length_map]
  refine Zas (Zil (n := ((rows.length : Nat) : Int)) C (by omega) (by omega) (by omega)) ?_
  rintro _ s2 ⟨r, rfl, r0, r1, c1, m1⟩
  obtain ⟨a, rfl⟩ := Int.eq_ofNat_of_zero_le r0
  have al : a < rows.length := by omega
  obtain ⟨fs, hfs⟩ : ∃ fs, rows[a]? = some fs := ⟨_, List.getElem?_eq_getElem al⟩
  obtain ⟨hf, ne, fl4⟩ := h fs (List.mem_of_getElem? hfs)
  have fpos : 1 ≤ fs.length := by cases fs with
    | nil => exact absurd rfl ne
    | cons f r => rw [List.length_cons]; omega
  simp only [Za0, List.set_cons_succ, List.set_cons_zero]
  rw [Zax, Zaq, Zay, (Zaj (i := 3) (t := .lst (rows.map fsT)) rfl).wp, (Zaj (i := 4) rfl).wp]
  refine ix_at (ts := rows.map fsT) (t := fsT fs) (.inl rfl) (by rw [List.getElem?_map, hfs]; rfl) ?_
  simp only [Za0, List.set_cons_succ, List.set_cons_zero]
  rw [Zax, Zaq, Zao, Zag, (Zaj (i := 0) rfl).wp, Zag, Zdk, Zag, (Zaj (i := 5) (t := .lst (fs.map Fc.t)) rfl).wp, Zan, Zne, Zan, List.length_map]
  refine Zas (Zil (n := ((fs.length : Nat) : Int)) c1 (by omega) (by omega) (by omega)) ?_
  rintro _ s3 ⟨r', rfl, r0', r1', c2, m2⟩
  obtain ⟨p, rfl⟩ := Int.eq_ofNat_of_zero_le r0'
  have pl : p < fs.length := by omega
  obtain ⟨f, hfp⟩ : ∃ f, fs[p]? = some f := ⟨_, List.getElem?_eq_getElem pl⟩
  have ff := hf f (List.mem_of_getElem? hfp)
  simp only [Za0, List.set_cons_succ, List.set_cons_zero]
  have add1 : ∀ (n : Nat) (s : Sd) (P : T → Sd → Prop), wp (Zbw (yAdd (.int (n : Int)) (.int 1) s)) P = P (.int ((n + 1 : Nat) : Int)) s := fun n s P => by rw [Za9]; push_cast; rfl
  rw [Zax, Zaq, Zb2, Zag, Zay, Zay, Zdw, (Zaj (i := 5) (t := .lst (fs.map Fc.t)) rfl).wp, Zdu, Zb8, (Zaj (i := 6) rfl).wp]
  simp only [Zds]
  rw [sl_lst, Zmd, Zb2, Zag, Zao, Zag, (Zaj (i := 0) rfl).wp, Zag, Zay, (Zaj (i := 5) (t := .lst (fs.map Fc.t)) rfl).wp, (Zaj (i := 6) rfl).wp]
  refine ix_at (ts := fs.map Fc.t) (t := f.t) (.inl rfl) (by rw [List.getElem?_map, hfp]; rfl) ?_
  rw [Zan]
  refine Zas (odd_fact2 ff.sd ff.k c2 (by omega)) ?_
  rintro o s4 ⟨po, c3, m3⟩
  rw [Zan]
  refine ⟨by show 1 ≤ 100000; decide, ?_⟩
  rw [Zhc]
  refine ⟨by rw [List.length_take, List.length_map]; show _ + 1 ≤ 100000; omega, ?_⟩
  rw [Zdw, (Zaj (i := 5) (t := .lst (fs.map Fc.t)) rfl).wp, Zb8, Zay, (Zaj (i := 6) rfl).wp, wx_c, add1]
  simp only [Zds]
  rw [Zdu, sl_lst, cut_drop _ _ (by rw [List.length_map]; omega), Zhc]
  refine ⟨by simp only [List.length_append, List.length_take, List.length_drop, List.length_map, List.length_singleton]; show _ ≤ 100000; omega, ?_⟩
  have tp : ∀ (s : Sd) (P : T → Sd → Prop), wp (Zbw (yTuple [.lst (fs.map Fc.t)] s)) P = P (.tup (fs.map Fc.t)) s := fun s P => tuple_lst
  rw [Zag, Zb2, Zan]
  refine ⟨by decide, ?_⟩
  rw [Zag, Zdk, Zag, (Zaj (i := 5) (t := .lst (fs.map Fc.t)) rfl).wp, Zan, tp, Zag, wx_c, Zag, Zay, (Zaj (i := 5) (t := .lst (fs.map Fc.t)) rfl).wp, wx_c]
  have h0 : (fs.map Fc.t)[0]? = some ((fs.map Fc.t).headD .non) := by
    cases fs with
    | nil => exact absurd rfl ne
    | cons f r => rfl
  refine ix_at (n := 0) (ts := fs.map Fc.t) (.inl rfl) h0 ?_
  rw [Zan]
  refine ⟨by show 5 ≤ 100000; decide, ?_⟩
  simp only [Za0, List.set_cons_succ, List.set_cons_zero]
  rw [Zax, Zaq, Zay, (Zaj (i := 7) rfl).wp, Zb2, Zag, wx_c, Zag, wx_c, Zag, Zb2, Zag, (Zaj (i := 5) (t := fsT fs) rfl).wp, Zan]
  refine ⟨by show 1 ≤ 100000; decide, ?_⟩
  rw [Zan]
  refine ⟨by show 3 ≤ 100000; decide, ?_⟩
  rw [Zhc]
  refine ⟨by show 5 + 3 ≤ 100000; decide, ?_⟩
  have b8 := bad8_ok (p := p) hf ne fl4 po
  have ln8 : (bad8 fs p o).length = 8 := rfl
  simp only [Za0, List.set_cons_succ, List.set_cons_zero]
  have h11 : ∀ δ : Ed, Is ((Zej (Zaa (x_c (.int 0)) (Zaa (x_c (.int 0)) (Zaa (x_c (.int 0)) (Zaa (x_c (.int 0)) (Zaa (x_c (.int 1)) (Zaa (x_c (.int 2)) (Zaa (x_c (.int 3)) (Zaa (x_c (.int 4)) (Zaa (x_c (.int 5)) (Zaa (x_c (.int 6)) (Zaa (x_c (.int 7)) Zaf)))))))))))) δ s4) (.lst [.int 0, .int 0, .int 0, .int 0, .int 1, .int 2, .int 3, .int 4, .int 5, .int 6, .int 7]) s4 := fun δ => ⟨rfl, rfl⟩
  rw [Zax, Zaq, Zay, (Zaj (i := 7) (t := .lst (bad8 fs p o)) rfl).wp, Zay, (h11 _).wp, Zao, Zag, (Zaj (i := 0) rfl).wp, Zag, wx_c, Zan]
  refine Zas (Zil (n := 11) c3 (by omega) (by decide) (by decide)) ?_
  rintro _ s5 ⟨r5, rfl, r50, r51, c4, m4⟩
  refine Zgl (.inl rfl) r50 (by simpa using r51) fun u hu => ?_
  obtain ⟨n, rfl, hn⟩ : ∃ n : Nat, u = .int (n : Int) ∧ n < 8 := by
    simp only [List.mem_cons, List.not_mem_nil, or_false] at hu
    rcases hu with rfl | rfl | rfl | rfl | rfl | rfl | rfl | rfl | rfl | rfl | rfl
    · exact ⟨0, rfl, by decide⟩
    · exact ⟨0, rfl, by decide⟩
    · exact ⟨0, rfl, by decide⟩
    · exact ⟨0, rfl, by decide⟩
    · exact ⟨1, rfl, by decide⟩
    · exact ⟨2, rfl, by decide⟩
    · exact ⟨3, rfl, by decide⟩
    · exact ⟨4, rfl, by decide⟩
    · exact ⟨5, rfl, by decide⟩
    · exact ⟨6, rfl, by decide⟩
    · exact ⟨7, rfl, by decide⟩
  obtain ⟨t, ht⟩ : ∃ t, (bad8 fs p o)[n]? = some t := ⟨_, List.getElem?_eq_getElem (by rw [ln8]; exact hn)⟩
  obtain ⟨ct, nt⟩ := b8 t (List.mem_of_getElem? ht)
  refine ix_at (ts := bad8 fs p o) (.inl rfl) ht ?_
  simp only [Za0, List.set_cons_succ, List.set_cons_zero]
  have m := (((m1.trans m2).trans m3).trans m4)
  generalize hδ : [some (T.cell k), some (.lst (cs.map fsT)), some (fsT [(⟨some "a", none, 1⟩ : Fc)]), some (.lst (rows.map fsT)), some (T.int (a : Int)), some (fsT fs), some (.int (p : Int)), some t] = δ
  have d3 : δ[3]? = some (some (.lst (rows.map fsT))) := by rw [← hδ]; rfl
  have d4 : δ[4]? = some (some (.int (a : Int))) := by rw [← hδ]; rfl
  have d7 : δ[7]? = some (some t) := by rw [← hδ]; rfl
  have x1 : Is (Zap yAdd (x_sl (Zad 3) Ziv (Zft (Zad 4))) (Zej (Zaa (Zad 7) Zaf)) δ s5) (.lst ((rows.map fsT).take a ++ [t])) s5 := by
    show wp _ _
    rw [Zay, Zdw, (Zaj d3).wp, Zdu, Zb8, (Zaj d4).wp]
    simp only [Zds]
    rw [sl_lst, Zmd, Zb2, Zag, (Zaj d7).wp, Zan]
    refine ⟨by show 1 ≤ 100000; decide, ?_⟩
    rw [Zhc]
    exact ⟨by rw [List.length_take, List.length_map]; show _ + 1 ≤ 100000; omega, rfl, rfl⟩
  have x2 : Is (x_sl (Zad 3) (Zft (Zap yAdd (Zad 4) (x_c (.int 1)))) Ziv δ s5) (.lst ((rows.map fsT).drop (a + 1))) s5 := by
    show wp _ _
    rw [Zdw, (Zaj d3).wp, Zb8, Zay, (Zaj d4).wp, wx_c, add1]
    simp only [Zds]
    rw [Zdu, sl_lst, cut_drop _ _ (by rw [List.length_map]; omega)]
    exact ⟨rfl, rfl⟩
  rw [Za6, is_addC x1 x2 (by simp only [List.length_append, List.length_take, List.length_drop, List.length_map, List.length_singleton]; show _ ≤ 100000; omega), Zdd]
  exact ⟨s5, _, rfl, rfl, c4.mono (by omega) hb, m, spoilt_of (fun fs h' => (h fs h').1) (fun fs h' => (h fs h').2.2) hl.1 ct nt⟩
end
end Pr
namespace Pr
open PySem L2 Vs
/-! ### spoilt conflicts are refused -/
section
variable {s : Sd} {k b : Nat} {cs : List (List Fc)}
theorem flat_sm {s s' : Sd} {k b : Nat} (f : s.all Zm0 = true) (m : Sm k s s') (C : Cx2 s' k b) : s'.all Zm0 = true := by
  refine List.all_eq_true.mpr fun o ho => ?_
  obtain ⟨j, hj⟩ := List.mem_iff_getElem?.mp ho
  by_cases e : j = k
  · obtain ⟨⟨p0, p1, p2, h, _⟩, _⟩ := C
    subst e
    rw [h] at hj
    cases hj
    rfl
  · rw [m.2 j e] at hj
    exact List.all_eq_true.mp f o (List.mem_of_getElem? hj)
theorem refused_spoilt {δ : Ed} {i j : Nat} (hi : δ[i]? = some (some (.cell k))) (hj : δ[j]? = some (some (.lst (cs.map fsT)))) (G : Cs20 cs) (l2 : cs.length ≤ 2) (C : Cx2 s k b) (hb : b + 60 ≤ 2 ^ 60) (f : s.all Zm0 = true) :
    wp (x_scope (Zbs Zdn (Zaa (Zbs Zey (Zaa (Zad i) (Zaa (Zad j) Zaf))) Zaf)) δ s) fun t s' => t = .bl true ∧ Cx2 s' k (b + 60) ∧ Sm k s s' ∧ s'.all Zm0 = true := by
  unfold x_scope
  refine wp_pop ?_
  rw [Zao, Zag, Zao, Zag, (Zaj hi).wp, Zag, (Zaj hj).wp, Zan]
  refine Zas (spoilt2 G l2 C hb) ?_
  rintro _ _ ⟨s1, ts, rfl, rfl, c1, m1, S⟩
  have f1 := flat_sm f m1 c1
  rw [Zan]
  refine Zas (Zk7 c1.pure f1 S.q S.p S.no S.u (by decide) S.z S.len) ?_
  rintro _ _ ⟨rfl, rfl⟩
  have l1 : s1.length = s.length := m1.1
  rw [show (s1 ++ [TO.lst (ts ++ [T.str "later"])]).take s.length = s1 from by rw [← l1]; exact List.take_left ..]
  exact ⟨rfl, c1.pure, rfl, c1, m1, f1⟩
end
end Pr
namespace Pr
open PySem L2 Vs
/-! ### what is frozen and no list of conflicts is refused -/
section
variable {s : Sd} {t : T}
theorem initX_no (hs : PureS s) (pt : pure? 11 t = true) (pl : Zia t = true) (nb : confsB t = false) : Zb1 [.cell s.length, t] (s ++ [.ins 7 []]) = .exc 11 t (s ++ [.ins 7 []]) := by
  have hS : PureS (s ++ [TO.ins 7 []]) := hs.app rfl
  have z : rz (Zb1 [.cell s.length, t] (s ++ [.ins 7 []])) fun k u s1 => k = 11 ∧ u = t ∧ s1 = s ++ [.ins 7 []] := by
    unfold Zb1
    refine rz_dfnX hS (rz_seq1 (rz_if ?_))
    have e0 : List.map some [T.cell s.length, t] ++ List.replicate (3 - [T.cell s.length, t].length) none = [some (.cell s.length), some t, none] := rfl
    rw [e0, Zbz, Zbx, Zao, Zag, (Zaj (i := 1) (t := t) rfl).wp, Zan, (confs_any hS pl).wp, nb]
    simp only [Zdm, Zg9, Zby, Zdl, Bool.not_false, if_true]
    refine rz_raise ?_
    rw [Zag, (Zaj (i := 1) (t := t) rfl).wp, Zan]
    exact ⟨t, rfl, Zc9 11 (by decide) pt, List.take_length, rfl, rfl, trivial⟩
  obtain ⟨k, u, s1, e, rfl, rfl, rfl⟩ := z
  exact e
theorem makeX_no (hs : PureS s) (pt : pure? 11 t = true) (pl : Zia t = true) (nb : confsB t = false) {δ : Ed} {i : Nat} (hi : δ[i]? = some (some t)) : Zht 7 Zb1 (Zaa (Zad i) Zaf) δ s = .exc 11 t s := by
  have ea : (Zaa (Zad i) Zaf) δ s = .ok [t] s := by
    have h : wp ((Zaa (Zad i) Zaf) δ s) fun ts s1 => ts = [t] ∧ s1 = s := by
      rw [Zag, (Zaj hi).wp, Zan]
      exact ⟨rfl, rfl⟩
    obtain ⟨ts, s1, e, rfl, rfl⟩ := Zlm h
    exact e
  unfold Zht
  rw [ea, Zce, initX_no hs pt pl nb]
  show popX s.length (.exc 11 t (s ++ [.ins 7 []])) = _
  unfold popX
  dsimp only
  rw [Zfv _ _ PD FU _ (by decide) (Zc9 11 (by decide) pt), List.take_left, Zfk _ _ hs]
/-- a value whose text is known -/
noncomputable def Rp (t : T) : Prop := ∃ z : Str, ∀ {a : DE} {δ : Ed} {s : Sd}, Is (a δ s) t s → Is (Ze6 a δ s) (.str z) s
theorem rp_deep {d : Nat} (f : fl t = none) (ud : udat d t = true) (hd : d ≤ 50) (hz : usz d t ≤ 2500) : Rp t := by
  obtain ⟨D, hD, ok⟩ := reprU_ok ud hd hz
  exact ⟨D.shown, fun ha => is_reprU ha f (hD _) ok⟩
theorem rp_flat {w : W} {z : Str} (f : fl t = some w) (h : reprTx t = some z) : Rp t := ⟨z, fun ha => by
  unfold Ze6
  rw [ha.eq, Zce, f]
  dsimp only
  rw [h]
  exact ⟨rfl, rfl⟩⟩
theorem rp_of {d : Nat} (ud : udat d t = true) (hd : d ≤ 50) (hz : usz d t ≤ 2500) (h : (fl t).isSome = true → (reprTx t).isSome = true) : Rp t := by
  cases hf : fl t with
  | none => exact rp_deep hf ud hd hz
  | some w =>
    obtain ⟨z, hz⟩ := Option.isSome_iff_exists.mp (h (by rw [hf]; rfl))
    exact rp_flat hf hz
theorem refused_no (hs : PureS s) (nl : kT t ≠ "list") (pt : pure? 11 t = true) (pl : Zia t = true) (rp : Rp t) : Is (Zdn [t] s) (.bl true) s := by
  have nb : confsB t = false := by cases t <;> first | rfl | exact absurd rfl nl
  have pT : Zfg t = true := plainCs_T pl
  have mk : x_mkB 7 0 Zb1 Zc5 [some t, some .non, none] s = .exc 11 t s := by
    rw [← makeX_no hs pt pl nb (δ := [some t, some .non, none]) (i := 0) rfl]
    unfold x_mkB
    cases t <;> first | rfl | exact Bool.noConfusion pT
  have tr : xs_tryX [11] 1 2 (x_mkB 7 0 Zb1 Zc5) [some t, some .non, none] s = .ok (.nx [some t, some (.exn 11 t), none]) s := by
    unfold xs_tryX
    rw [mk]
    dsimp only
    rw [if_pos (by decide)]
    rfl
  show wp _ _
  unfold Zdn
  refine Zgj ?_
  have e0 : List.map some [t] ++ List.replicate (3 - [t].length) none = [some t, none, none] := rfl
  rw [e0, Zax, Zaq, wx_c]
  simp only [Za0, List.set_cons_succ, List.set_cons_zero]
  rw [Zax, show xs_tryX [11] 1 2 _ _ _ = _ from tr, Zdd]
  simp only [Za0]
  have hsub : subT (kT t) "list" = false := by cases t <;> first | exact absurd rfl nl | rfl | exact Bool.noConfusion pT
  rw [Zax, Zdo, Zbx, (isT_any (k := "list") (Zaj (i := 0) (t := t) rfl) pT).wp, hsub]
  simp only [Zdm, Zg9, Zby, Zdl, Bool.false_eq_true, if_false, Za3, Za0]
  have v0 : Is (Zad 0 [some t, some (T.exn 11 t), none] s) t s := Zaj rfl
  have v1 : Is (Zad 1 [some t, some (T.exn 11 t), none] s) (.exn 11 t) s := Zaj rfl
  rw [Za6, Zbr, (isX_of v1).wp]
  simp only [Zb0, if_true]
  obtain ⟨z, hz⟩ := rp
  rw [Zay, (hz (fldX_of (f := "value") v1 rfl)).wp, (hz v0).wp, Zcj, decide_eq_true rfl]
  simp only [Zcc, List.take_length]
  first | exact ⟨rfl, hs, rfl, rfl⟩ | exact ⟨rfl, hs, trivial, rfl⟩ | exact ⟨rfl, hs, trivial, trivial⟩ | trace_state
noncomputable def odd9 : List T := [.non, .int 0, .bl true, .str "", .tup [], .dic [], .tup [.lst [.tup [.str "a", .int 0, .int 1]]], .tup [.str "a", .int 0, .int 1], .str "abc"]
theorem odd9_ok : ∀ t ∈ odd9, ∀ s : Sd, PureS s → Is (Zdn [t] s) (.bl true) s := by
  have h : odd9.all (fun t => (kT t != "list") && pure? 11 t && Zia t && udat 4 t && decide (usz 4 t ≤ 2500) && (!(fl t).isSome || (reprTx t).isSome)) = true := by decide +kernel
  intro t ht s hs
  have := List.all_eq_true.mp h t ht
  simp only [Bool.and_eq_true, decide_eq_true_eq, bne_iff_ne, ne_eq, Bool.or_eq_true, Bool.not_eq_true'] at this
  refine refused_no hs this.1.1.1.1.1 this.1.1.1.1.2 this.1.1.1.2 (rp_of this.1.1.2 (by decide) this.1.2 fun q => ?_)
  rcases this.2 with e | e
  · rw [e] at q; cases q
  · exact e
end
end Pr
namespace Pr
open PySem L2 Vs
/-! ### k20: facts as data, their texts; claims compared -/
noncomputable abbrev csT (cs : List (List Fc)) : T := .lst (cs.map fsT)
theorem enT_dat {e : Option Str} (h : ∀ x, e = some x → isNm x = true) (n : Nat) : dat n (enT e) = true := by
  cases e with
  | none => cases n <;> rfl
  | some x =>
    have := isNm_ok (h x rfl)
    cases n <;> exact this
theorem fc_dat {f : Fc} (h : f.snd) (n : Nat) : dat (n + 1) f.t = true := by
  show ([enT f.a, enT f.b, T.int f.k].all (dat n)) = true
  simp only [List.all_cons, List.all_nil, Bool.and_true, enT_dat h.1, enT_dat h.2, Bool.true_and]
  cases n <;> rfl
theorem fs_dat {fs : List Fc} (h : ∀ f ∈ fs, f.snd) (n : Nat) : dat (n + 2) (fsT fs) = true := List.all_eq_true.mpr fun t ht => by
  obtain ⟨f, hf, rfl⟩ := List.mem_map.mp ht
  exact fc_dat (h f hf) n
theorem cs_dat {cs : List (List Fc)} (h : ∀ fs ∈ cs, ∀ f ∈ fs, f.snd) (n : Nat) : dat (n + 3) (csT cs) = true := List.all_eq_true.mpr fun t ht => by
  obtain ⟨fs, hf, rfl⟩ := List.mem_map.mp ht
  exact fs_dat (h fs hf) n
/-- at most eight lists of at most four facts -/
structure Cs8 (cs : List (List Fc)) : Prop where
  len : cs.length ≤ 8
  ne : ∀ fs ∈ cs, fs ≠ []
  len2 : ∀ fs ∈ cs, fs.length ≤ 4
  fc : ∀ fs ∈ cs, ∀ f ∈ fs, Fc20 f
section
variable {cs ds : List (List Fc)}
theorem Cs20.c8 (h : Cs20 cs) : Cs8 cs := ⟨Nat.le_trans h.len (by decide), h.ne, h.len2, h.fc⟩
theorem Cs8.app (h : Cs8 cs) (k : Cs8 ds) (hl : cs.length + ds.length ≤ 8) : Cs8 (cs ++ ds) :=
  ⟨by rw [List.length_append]; exact hl, fun fs hf => (List.mem_append.mp hf).elim (h.ne fs) (k.ne fs), fun fs hf => (List.mem_append.mp hf).elim (h.len2 fs) (k.len2 fs), fun fs hf => (List.mem_append.mp hf).elim (h.fc fs) (k.fc fs)⟩
theorem Cs8.sn (h : Cs8 cs) : ∀ fs ∈ cs, ∀ f ∈ fs, f.snd := fun fs hf f hg => (h.fc fs hf f hg).sd
theorem Cs8.ok (h : Cs8 cs) : CsOk cs := ⟨fun fs hf => ⟨h.ne fs hf, Nat.le_trans (h.len2 fs hf) (by decide), h.sn fs hf⟩, Nat.le_trans h.len (by decide)⟩
theorem Cs8.dat (h : Cs8 cs) : Pr.dat 50 (csT cs) = true := cs_dat h.sn 47
theorem Cs8.rp (h : Cs8 cs) : Rp (csT cs) := by
  refine rp_of (d := 5) ?_ (by decide) ?_ fun z => by cases z
  · exact List.all_eq_true.mpr fun t ht => by
      obtain ⟨fs, hf, rfl⟩ := List.mem_map.mp ht
      exact (fs_c (h.fc fs hf) (h.len2 fs hf)).u
  · show 1 + ((cs.map fsT).map (usz 4)).sum ≤ 2500
    have : ((cs.map fsT).map (usz 4)).sum ≤ 120 * (cs.map fsT).length := sum_g fun t ht => by
      obtain ⟨fs, hf, rfl⟩ := List.mem_map.mp ht
      exact (fs_c (h.fc fs hf) (h.len2 fs hf)).z
    have l := h.len
    rw [List.length_map] at this
    omega
/-- what both are, as data -/
noncomputable def dv (t : T) : PyData := ((dvT [] t).getD .none)
theorem dv_of (h : Pr.dat 50 (csT cs) = true) (s : Sd) : dvT s (csT cs) = some (dv (csT cs)) := by
  obtain ⟨D, _, e⟩ := dat_dv h
  unfold dv
  rw [e s, e []]
  rfl
noncomputable def eqC (cs ds : List (List Fc)) : Bool := PyData.eqv (dv (csT cs)) (dv (csT ds))
theorem eq_cs (h : Cs8 cs) (k : Cs8 ds) {s : Sd} {P : T → Sd → Prop} : wp (Zbw (yEq (csT cs) (csT ds) s)) P = P (.bl (eqC cs ds)) s := by
  have e : yEq (csT cs) (csT ds) s = some (.bl (eqC cs ds), s) := by
    unfold yEq
    have f1 : fl (csT cs) = none := rfl
    simp only [f1, Option.bind_none, dv_of h.dat s, dv_of k.dat s, Option.bind_some]
    rfl
  rw [e]; rfl
theorem eqC_self (h : Cs8 cs) : eqC cs cs = true := by
  obtain ⟨D, h1, h2⟩ := dat_dv h.dat
  unfold eqC dv
  rw [h2 []]
  exact h1
theorem eqvAll_len : ∀ {xs ys : List PyData}, PyData.eqvAll xs ys = true → xs.length = ys.length
  | [], [], _ => rfl
  | [], _ :: _, h => by simp [PyData.eqvAll] at h
  | _ :: _, [], h => by simp [PyData.eqvAll] at h
  | x :: xs, y :: ys, h => by
    simp only [PyData.eqvAll, Bool.and_eq_true] at h
    rw [List.length_cons, List.length_cons, eqvAll_len h.2]
theorem travP_len {f : T → Option PyData} : ∀ {ts : List T} {Ds : List PyData}, Zg0 f ts = some Ds → Ds.length = ts.length
  | [], Ds, h => by cases h; rfl
  | t :: ts, Ds, h => by
    have h : ((f t).bind fun u => (Zg0 f ts).map fun us => u :: us) = some Ds := h
    obtain ⟨u, _, h⟩ := Option.bind_eq_some_iff.mp h
    obtain ⟨us, e, rfl⟩ := Option.map_eq_some_iff.mp h
    rw [List.length_cons, List.length_cons, travP_len e]
theorem dv_lst (h : Cs8 cs) : ∃ Ds : List PyData, dv (csT cs) = .list Ds ∧ Ds.length = cs.length := by
  obtain ⟨Ds, h1, h2, h3, h4⟩ := Zmb (fun t => Zmg 49 t) (cs.map fsT) h.dat
  have e : dvT [] (csT cs) = some (.list Ds) := by
    unfold dvT
    have : Zhu [] 60 (csT cs) = some (.list Ds) := by
      show (Zg0 (Zhu [] 59) (cs.map fsT)).map PyData.list = _
      rw [h1 [] 59 (by decide)]; rfl
    rw [this, Option.bind_some, if_pos]
    unfold SeqAt.shaped
    have c : (PyData.list Ds).canLay0 = true := by simp only [PyData.canLay0, h2]
    rw [c, Bool.true_and]
    have d : (PyData.list Ds).depth ≤ 50 := by simp only [PyData.depth]; omega
    exact decide_eq_true (by omega)
  refine ⟨Ds, by unfold dv; rw [e]; rfl, ?_⟩
  rw [travP_len (h1 [] 49 (Nat.le_refl _)), List.length_map]
theorem eqC_len (h : Cs8 cs) (k : Cs8 ds) (e : eqC cs ds = true) : cs.length = ds.length := by
  obtain ⟨D1, e1, l1⟩ := dv_lst h
  obtain ⟨D2, e2, l2⟩ := dv_lst k
  unfold eqC at e
  rw [e1, e2] at e
  simp only [PyData.eqv] at e
  rw [← l1, ← l2, eqvAll_len e]
theorem cs8_nil : Cs8 [] := ⟨by decide, (fun _ h => nomatch h), (fun _ h => nomatch h), fun _ h => nomatch h⟩
end
end Pr
namespace Pr
open PySem L2 Vs
/-! ### k20: claims compared and joined, as the law does it -/
section
variable {s : Sd} {cs ds : List (List Fc)} {a b : DE} {δ : Ed}
theorem cs_eq (hs : PureS s) (h : Cs8 cs) (k : Cs8 ds) : Is (Zcd [clmT cs, clmT ds] s) (.bl (eqC cs ds)) s := by
  unfold Zcd
  refine Zez hs rfl ?_
  have e0 : List.map some [clmT cs, clmT ds] ++ List.replicate (2 - [clmT cs, clmT ds].length) none = [some (clmT cs), some (clmT ds)] := rfl
  have i7 : Is (x_isI 7 (Zad 1) [some (clmT cs), some (clmT ds)] s) (.bl true) s := by
    unfold x_isI
    rw [(Zaj (i := 1) rfl).eq, Zce]
    exact ⟨rfl, rfl⟩
  rw [e0, Za6, Zbr, i7.wp]
  simp only [Zb0, if_true]
  rw [Zay, (Zkg (Zaj (i := 0) rfl)).wp, (Zkg (Zaj (i := 1) rfl)).wp, eq_cs h k]
  first | exact ⟨rfl, rfl⟩ | trivial
theorem cl_eq (hs : PureS s) (h : Cs8 cs) (k : Cs8 ds) (ha : Is (a δ s) (clmT cs) s) (hb : Is (b δ s) (clmT ds) s) : Is (Zns 7 Zcd a b δ s) (.bl (eqC cs ds)) s := by
  unfold Zns
  rw [ha.eq, Zce, hb.eq, Zce]
  show Is (if true = true then Zcd [clmT cs, clmT ds] s else Rd.bad) _ _
  rw [if_pos rfl]
  exact cs_eq hs h k
theorem cl_ne (hs : PureS s) (h : Cs8 cs) (ha : Is (a δ s) (clmT cs) s) (hb : Is (b δ s) (clmT cs) s) : Is (x_one 7 Zcd a b δ s) (.bl false) s := by
  unfold x_one
  rw [ha.eq, Zce, hb.eq, Zce]
  show Is (if true = true then (Zcd [clmT cs, clmT cs] s).bind _ else Rd.bad) _ _
  rw [if_pos rfl, (cs_eq hs h h).eq, Zce, eqC_self h]
  exact ⟨rfl, rfl⟩
/-- a claim and a list -/
theorem cs_eqL (hs : PureS s) : Is (Zcd [clmT cs, csT ds] s) (.bl false) s := by
  unfold Zcd
  refine Zez hs rfl ?_
  have e0 : List.map some [clmT cs, csT ds] ++ List.replicate (2 - [clmT cs, csT ds].length) none = [some (clmT cs), some (csT ds)] := rfl
  have i7 : Is (x_isI 7 (Zad 1) [some (clmT cs), some (csT ds)] s) (.bl false) s := by
    unfold x_isI
    rw [(Zaj (i := 1) rfl).eq, Zce]
    exact ⟨rfl, rfl⟩
  rw [e0, Za6, Zbr, i7.wp]
  simp only [Zb0, Bool.false_eq_true, if_false]
  first | exact ⟨rfl, rfl⟩ | trivial
theorem cl_eqL (hs : PureS s) (ha : Is (a δ s) (clmT cs) s) (hb : Is (b δ s) (csT ds) s) : Is (x_oeqL 7 Zcd a b δ s) (.bl false) s := by
  show Is (x_oadd 7 Zcd a b δ s) _ _
  unfold x_oadd
  rw [ha.eq, Zce, hb.eq, Zce]
  show Is (if true = true then Zcd [clmT cs, csT ds] s else Rd.bad) _ _
  rw [if_pos rfl]
  exact cs_eqL hs
theorem cl_neL (hs : PureS s) (ha : Is (a δ s) (clmT cs) s) (hb : Is (b δ s) (csT ds) s) : Is (x_oneL 7 Zcd a b δ s) (.bl true) s := by
  unfold x_oneL
  rw [ha.eq, Zce, hb.eq, Zce]
  show Is (if true = true then (Zcd [clmT cs, csT ds] s).bind _ else Rd.bad) _ _
  rw [if_pos rfl, (cs_eqL hs).eq, Zce]
  exact ⟨rfl, rfl⟩
theorem l_add (h : Cs8 cs) (k : Cs8 ds) (ha : Is (a δ s) (csT cs) s) (hb : Is (b δ s) (csT ds) s) : Is (Zap yAdd a b δ s) (csT (cs ++ ds)) s := by
  show wp _ _
  rw [Zay, ha.wp, hb.wp, Zhc]
  refine ⟨?_, by rw [← List.map_append], rfl⟩
  have := h.len
  have := k.len
  rw [List.length_map, List.length_map]
  show _ ≤ 100000
  omega
theorem l_ne (h : Cs8 cs) (ha : Is (a δ s) (csT cs) s) (hb : Is (b δ s) (csT cs) s) : Is (Zem (Zap yNe a b) δ s) false s := by
  show wp _ _
  rw [Zca, Zay, ha.wp, hb.wp, ne_self h.dat rfl]
  simp only [Zb0]
  first | exact ⟨rfl, rfl⟩ | trivial | exact ⟨trivial, rfl⟩
theorem l_neR (h : Cs8 cs) (ha : Is (a δ s) (csT cs) s) (hb : Is (b δ s) (csT cs) s) : Is (Zem (Zap yNe (Ze6 a) (Ze6 b)) δ s) false s := by
  obtain ⟨z, r⟩ := h.rp
  show wp _ _
  rw [Zca, Zay, (r ha).wp, (r hb).wp, Zcm]
  simp only [Zb0, decide_true, Bool.not_true]
  first | exact ⟨rfl, rfl⟩ | trivial | exact ⟨trivial, rfl⟩
theorem Zi6 (hs : PureS s) (h : Cs8 cs) (ha : Is (a δ s) (clmT cs) s) : Is (Zgk 7 Za5 a δ s) (csT cs) s := conflicts_is hs h.ok.2 ha
theorem lcopied_is (hs : PureS s) (hl : cs.length ≤ 1000) : Is (Zdx [csT cs] s) (csT cs) s := by
  unfold Zdx
  refine Zez hs (Zmm cs) ?_
  have e0 : List.map some [csT cs] ++ List.replicate (2 - [csT cs].length) none = [some (csT cs), none] := rfl
  rw [e0, Za6, (Zhh (vs := [1]) (j := 1) hs hl (Zf8 (Zaj (i := 0) rfl)) fun t => rfl).wp]
  first | done | exact ⟨rfl, rfl⟩ | trivial
theorem l_args {t : T} (ha : Is (a δ s) t s) : (Zaa a Zaf) δ s = .ok [t] s := by
  unfold Zaa
  rw [ha.eq, Zce]
  rfl
theorem l_copied (hs : PureS s) (h : Cs8 cs) (ha : Is (a δ s) (csT cs) s) : Is (Zbs Zdx (Zaa a Zaf) δ s) (csT cs) s := by
  show wp _ _
  rw [Zao, l_args ha, Zdd]
  exact lcopied_is hs h.ok.2
theorem l_make (hs : PureS s) (h : Cs8 cs) (ha : Is (a δ s) (csT cs) s) : Is (Zgs 7 Zc8 (Zaa a Zaf) δ s) (clmT cs) s := clm_make hs h.ok (l_args ha)
theorem z_or {p q : DTm} {k : Bool} (hp : Is (p δ s) false s) (hq : Is (q δ s) k s) : Is (Zic p q δ s) k s := by
  show wp _ _
  rw [Zdz, hp.wp, if_neg Bool.false_ne_true, hq.wp]
  exact ⟨rfl, rfl⟩
theorem z_bl {k : Bool} (ha : Is (a δ s) (.bl k) s) : Is (Zem a δ s) k s := by
  show wp _ _
  rw [Zca, ha.wp]
  exact ⟨rfl, rfl⟩
theorem z_not {p : DTm} {k : Bool} (hp : Is (p δ s) k s) : Is (Zf0 p δ s) (!k) s := by
  show wp _ _
  rw [Zbz, hp.wp]
  exact ⟨rfl, rfl⟩
theorem z_tru {k : Bool} (ha : Is (a δ s) (.bl k) s) : Is (Zf2 a δ s) k s := by
  show wp _ _
  rw [Zbx, ha.wp]
  exact ⟨rfl, rfl⟩
/-- a statement that lets go on -/
theorem z_go {p : DTm} {q REST : DSt} {P : DFl → Sd → Prop} (hp : Is (p δ s) false s) (h : wp (REST δ s) P) : wp (Zar (Zf6 p q Zei) REST δ s) P := by
  rw [Zax, Zdo, hp.wp, if_neg Bool.false_ne_true, Za3]
  exact h
theorem z_asg {g : DG} {REST : DSt} {P : DFl → Sd → Prop} {t : T} {δ' : Ed} (ha : Is (a δ s) t s) (hg : g t δ = some δ') (h : wp (REST δ' s) P) : wp (Zar (Zb4 a g) REST δ s) P := by
  rw [Zax]
  have e : Zb4 a g δ s = .ok (.nx δ') s := by
    unfold Zb4
    rw [ha.eq, Zce, hg]
  rw [e, Zdd]
  exact h
theorem joined20 (hs : PureS s) (h : Cs20 cs) (k : Cs20 ds) (h2 : cs.length ≤ 2) (k2 : ds.length ≤ 2) : Is (Ze1 [clmT cs, clmT ds, csT cs, csT ds] s) (.bl true) s := by
  have c1 := h.c8
  have c2 := k.c8
  have c12 : Cs8 (cs ++ ds) := c1.app c2 (by omega)
  have c21 : Cs8 (ds ++ cs) := c2.app c1 (by omega)
  have c121 : Cs8 (cs ++ ds ++ cs) := c12.app c1 (by rw [List.length_append]; omega)
  unfold Ze1
  refine Zez hs rfl ?_
  have e0 : List.map some [clmT cs, clmT ds, csT cs, csT ds] ++ List.replicate (6 - [clmT cs, clmT ds, csT cs, csT ds].length) none = [some (clmT cs), some (clmT ds), some (csT cs), some (csT ds), none, none] := rfl
  rw [e0]
  refine z_asg (δ' := [some (clmT cs), some (clmT ds), some (csT cs), some (csT ds), some (clmT (cs ++ ds)), none]) (t := clmT (cs ++ ds)) (and_is hs c12.ok (Zaj (i := 0) rfl) (Zaj (i := 1) rfl)) rfl ?_
  refine z_go (z_or (l_ne c12 (Zi6 hs c12 (Zaj (i := 4) rfl)) (l_add c1 c2 (Zaj (i := 2) rfl) (Zaj (i := 3) rfl))) (l_neR c21 (Zi6 hs c21 (and_is hs c21.ok (Zaj (i := 1) rfl) (Zaj (i := 0) rfl))) (l_add c2 c1 (Zaj (i := 3) rfl) (Zaj (i := 2) rfl)))) ?_
  refine z_go (l_neR c121 (Zi6 hs c121 (and_is hs c121.ok (Zaj (i := 4) rfl) (Zaj (i := 0) rfl))) (l_add c12 c1 (l_add c1 c2 (Zaj (i := 2) rfl) (Zaj (i := 3) rfl)) (Zaj (i := 2) rfl))) ?_
  refine z_go (z_or (l_ne c1 (Zi6 hs c1 (Zaj (i := 0) rfl)) (Zaj (i := 2) rfl)) (z_or (l_ne c2 (Zi6 hs c2 (Zaj (i := 1) rfl)) (Zaj (i := 3) rfl)) (z_bl (cl_ne hs c12 (Zaj (i := 4) rfl) (l_make hs c12 (l_copied hs c12 (l_add c1 c2 (Zaj (i := 2) rfl) (Zaj (i := 3) rfl)))))))) ?_
  refine z_asg (δ' := [some (clmT cs), some (clmT ds), some (csT cs), some (csT ds), some (clmT (cs ++ ds)), some (clmT cs)]) (t := clmT cs) (Zaj (i := 0) rfl) rfl ?_
  refine z_asg (δ' := [some (clmT (cs ++ ds)), some (clmT ds), some (csT cs), some (csT ds), some (clmT (cs ++ ds)), some (clmT cs)]) (t := clmT (cs ++ ds)) (and_is hs c12.ok (Zaj (i := 0) rfl) (Zaj (i := 1) rfl)) rfl ?_
  refine z_go (z_or (l_ne c1 (Zi6 hs c1 (Zaj (i := 5) rfl)) (Zaj (i := 2) rfl)) (l_ne c12 (Zi6 hs c12 (Zaj (i := 0) rfl)) (l_add c1 c2 (Zaj (i := 2) rfl) (Zaj (i := 3) rfl)))) ?_
  refine z_asg (δ' := [some (clmT cs), some (clmT ds), some (csT cs), some (csT ds), some (clmT (cs ++ ds)), some (clmT cs)]) (t := clmT cs) (Zaj (i := 5) rfl) rfl ?_
  rw [Za6, Zay, (cl_eq hs c12 c1 (Zaj (i := 4) rfl) (Zaj (i := 0) rfl)).wp, Zay, (Zaj (i := 3) (t := csT ds) rfl).wp, Zb2, Zan]
  refine ⟨by show 0 ≤ 100000; decide, ?_⟩
  rw [show (T.lst [] : T) = csT [] from rfl, eq_cs c2 cs8_nil]
  have e : eqC (cs ++ ds) cs = eqC ds [] := by
    cases ds with
    | nil => rw [List.append_nil, eqC_self c1, eqC_self cs8_nil]
    | cons d ds =>
      have n1 : eqC (cs ++ d :: ds) cs ≠ true := fun z => by
        have := eqC_len c12 c1 z
        rw [List.length_append, List.length_cons] at this
        omega
      have n2 : eqC (d :: ds) [] ≠ true := fun z => by
        have := eqC_len c2 cs8_nil z
        rw [List.length_cons] at this
        cases this
      rw [Bool.eq_false_iff.mpr n1, Bool.eq_false_iff.mpr n2]
  rw [e]
  have eb : ∀ (k : Bool) (P : T → Sd → Prop), wp (Zbw (yEq (.bl k) (.bl k) s)) P = P (.bl true) s := fun k P => by cases k <;> rfl
  rw [eb]
  first | exact ⟨rfl, rfl⟩ | trivial
end
end Pr
namespace Pr
open PySem L2 Vs
/-! ### k20: lists of facts are copied, claims made of them, lists spoilt, over the memory -/
theorem list_new {ws : List W} {μ m : Mem} {w : W} (h : Zh6 ws μ = some (w, m)) : ∃ ys, w = .loc μ.length ∧ m = μ ++ [.lst ys] := by
  unfold Zh6 porN at h
  split at h
  · next e =>
    cases h
    unfold pListQ at e
    split at e
    · obtain ⟨a, _, h⟩ := apo_map e; cases h; exact ⟨_, rfl, rfl⟩
    · cases e
  · unfold pListD at h
    split at h
    · obtain ⟨a, _, h⟩ := apo_map h; cases h; exact ⟨_, rfl, rfl⟩
    · cases h
theorem list_run {r : AM} (hr : ApE r) {σ : En} {μ m : Mem} {w : W} (h : e_cb Zh6 r σ μ = .ok w m) : ∃ m1 ys, App μ m1 ∧ w = .loc m1.length ∧ m = m1 ++ [.lst ys] := by
  unfold e_cb at h
  obtain ⟨ws, m1, q1, h⟩ := Zf9 h
  cases e : Zh6 ws m1 with
  | none => rw [e] at h; cases h
  | some p =>
    obtain ⟨w1, m2⟩ := p
    rw [e] at h
    cases h
    obtain ⟨ys, rfl, rfl⟩ := list_new e
    exact ⟨m1, ys, hr _ _ _ _ q1, rfl, rfl⟩
theorem ap_list {r : AM} (hr : ApE r) : ApE (e_cb Zh6 r) := fun σ μ w m h => by
  obtain ⟨m1, ys, a, rfl, rfl⟩ := list_run hr h
  exact a.trans (App.push _ _)
theorem nv_list {r : AM} (hr : ApE r) : NvA (e_cb Zh6 r) := fun σ μ w m h => by
  obtain ⟨m1, ys, a, rfl, rfl⟩ := list_run hr h
  exact ⟨_, ys, rfl, a.1, Zk6⟩
noncomputable abbrev cplE (i j : Nat) : EM := e_lc (Zhd (Zah i)) (g_n j) Zj6 (e_cb Zh6 (Zac (Zah j) a_nil)) [j]
theorem fv_cpl (i j : Nat) : FvA (cplE i j) := fv_lc (ai_seq ap_var) at_yes (ap_list (ap_cons ap_var ap_nil)) (nv_list (ap_cons ap_var ap_nil))
theorem r_cpl (i j : Nat) : RE none (cplE i j) (x_lc (Zff (Zad i)) (xg_n j) Zfw (x_cb Zjq (Zaa (Zad j) Zaf)) [j]) := r_lc _ (Zi1 (Zal i)) (rg_n j) Zjz (r_cb Zjg (Zae (Zal j) Za4))
/-- where the lists are, and what they hold -/
theorem cs_of {m : Mem} {cs : List (List Fc)} {l : Nat} {ks : List Nat} (d : Dt none [] m (csT cs) (.loc l)) (h : DisL l ks m) : DtL none [] m (cs.map fsT) (ks.map W.loc) := by
  unfold Dt at d
  obtain ⟨l', ws, e, _, a, r⟩ := d
  cases e
  rw [h.1] at a
  cases a
  exact r
theorem dtl_idx {c c' : List Nat} {m m' : Mem} : ∀ {ts : List T} {ws : List W}, (∀ (i : Nat) (t : T) (w : W), ts[i]? = some t → ws[i]? = some w → Dt none c m t w → Dt none c' m' t w) → DtL none c m ts ws → DtL none c' m' ts ws
  | [], ws, _, h => by unfold DtL at h ⊢; exact h
  | t :: ts, ws, k, h => by
    unfold DtL at h ⊢
    obtain ⟨v, vs, rfl, a, b⟩ := h
    exact ⟨v, vs, rfl, k 0 t v rfl rfl a, dtl_idx (fun i t w h1 h2 => k (i + 1) t w (by simpa using h1) (by simpa using h2)) b⟩
theorem cs_dt2 {m m' : Mem} {c' : List Nat} {cs : List (List Fc)} {l : Nat} {ks : List Nat} (d : Dt none [] m (csT cs) (.loc l)) (h : DisL l ks m) (k1 : ∀ j ∈ l :: ks, j ∉ c' ∧ m'[j]? = m[j]?) (k2 : ∀ j ws, m[j]? = some (.tup ws) → j ∉ c' ∧ m'[j]? = some (.tup ws)) : Dt none c' m' (csT cs) (.loc l) := by
  have r := cs_of d h
  unfold Dt
  refine ⟨l, ks.map W.loc, rfl, (k1 l List.mem_cons_self).1, ((k1 l List.mem_cons_self).2).trans h.1, dtl_idx (fun i t w h1 h2 d => ?_) r⟩
  rw [List.getElem?_map] at h1 h2
  obtain ⟨fs, _, rfl⟩ := Option.map_eq_some_iff.mp h1
  obtain ⟨j, hj, rfl⟩ := Option.map_eq_some_iff.mp h2
  have kj := k1 j (List.mem_cons_of_mem _ (List.mem_of_getElem? hj))
  unfold fsT Dt at d ⊢
  obtain ⟨l', ws, e, _, a, r⟩ := d
  cases e
  refine ⟨j, ws, rfl, kj.1, kj.2.trans a, dtl_of (fun t ht w h => ?_) r⟩
  obtain ⟨f, _, rfl⟩ := List.mem_map.mp ht
  exact fc_dt h fun l ws _ e => k2 l ws e
theorem DisL.keep {d : Nat} {ks : List Nat} {m m' : Mem} (h : DisL d ks m) (k : ∀ j ∈ d :: ks, m'[j]? = m[j]?) (l : m.length ≤ m'.length) : DisL d ks m' := ⟨(k d List.mem_cons_self).trans h.1, h.2.1, fun j hj => Nat.lt_of_lt_of_le (h.2.2 j hj) l⟩
theorem make_run {cs : List (List Fc)} (ok : CsOk cs) {r : AM} {σ : En} {μ0 μ : Mem} {wg : W} (hr : r σ μ0 = .ok [wg] μ) (dg : Dt none [] μ (csT cs) wg) :
    ∃ l2 ks2 m, e_make 7 d_Claim_init r σ μ0 = .ok (.loc μ.length) m ∧ App μ m ∧ m[μ.length]? = some (.ins 7 [("_conflicts", .loc l2)]) ∧ DisL l2 ks2 m ∧ (∀ k ∈ l2 :: ks2, μ.length < k) ∧ Dt none [] m (csT cs) (.loc l2) := by
  have a0 : App μ (μ ++ [.ins 7 []]) := App.push _ _
  have sd0 : SD none [] (μ ++ [.ins 7 []]) [some (.loc μ.length), some wg, none] [none, some (csT cs), none] := .cons True.intro (.cons ⟨_, rfl, dt_app a0 dg⟩ (.cons True.intro .nil))
  obtain ⟨m1, e1, a1⟩ := rtt_run (Zh9 (Zh2 (Zdq Zfi (Zae (Zal 1) Za4)))) sd0 (b := false) (by
    show wp _ _
    rw [Zbz, Zbx, Zao, Zag, (Zaj (i := 1) (t := csT cs) rfl).wp, Zan, (Zhw Zj7 ok.1 ok.2).wp]
    simp only [Zby, Zdl, Bool.not_true]
    first | exact ⟨rfl, rfl⟩ | trivial)
  have sd1 : SD none [] m1 [some (.loc μ.length), some wg, none] [none, some (csT cs), none] := .cons True.intro (.cons ⟨_, rfl, dt_app (a0.trans a1) dg⟩ (.cons True.intro .nil))
  obtain ⟨w2, m2, e2, a2, d2⟩ := re_run (r_cpl 1 2) sd1 (Zhh (vs := [2]) (j := 2) Zj7 ok.2 (Zf8 (Zaj (i := 1) rfl)) fun t => rfl)
  obtain ⟨l2, ks2, rfl, dis, new⟩ := fv_cpl 1 2 _ _ _ _ e2
  have lm : μ.length < m1.length := Nat.lt_of_lt_of_le (by rw [List.length_append]; exact Nat.lt_succ_self _) a1.1
  have ins : m2[μ.length]? = some (.ins 7 []) := a2.get (a1.get Zk6)
  have gi : getI m2 (.loc μ.length) = some (7, []) := by
    show (match m2[μ.length]? with | some (.ins c fs) => some (c, fs) | _ => none) = _
    rw [ins]
  have ll : μ.length < m2.length := Nat.lt_of_lt_of_le lm a2.1
  have ne : ∀ k ∈ l2 :: ks2, μ.length < k := fun k hk => Nat.lt_of_lt_of_le lm (new k hk)
  refine ⟨l2, ks2, m2.set μ.length (.ins 7 [("_conflicts", .loc l2)]), ?_, ?_, List.getElem?_set_self ll, dis.keep (fun j hj => List.getElem?_set_ne (by have := ne j hj; omega)) (by rw [List.length_set]; exact Nat.le_refl _), ne, ?_⟩
  · unfold e_make
    rw [hr, Zdg]
    have run : d_Claim_init [.loc μ.length, wg] (μ ++ [.ins 7 []]) = .ok .non (m2.set μ.length (.ins 7 [("_conflicts", .loc l2)])) := by
      show ((Zcg (s_if (Zib (Zhz (e_call d_are_conflicts (Zac (Zah 1) a_nil)))) Zku Ze4) (s_fld 7 "_conflicts" (cplE 1 2) (Zah 0)) [some (.loc μ.length), some wg, none] (μ ++ [.ins 7 []])).bind fun f μ1 => match f with
        | .rt w => .ok w μ1
        | .nx _ => .ok .non μ1
        | _ => .bad) = _
      have i1 : s_if (Zib (Zhz (e_call d_are_conflicts (Zac (Zah 1) a_nil)))) Zku Ze4 [some (.loc μ.length), some wg, none] (μ ++ [.ins 7 []]) = .ok (.nx [some (.loc μ.length), some wg, none]) m1 := by
        unfold s_if
        rw [e1, Zdg, if_neg Bool.false_ne_true]
        rfl
      have i2 : s_fld 7 "_conflicts" (cplE 1 2) (Zah 0) [some (.loc μ.length), some wg, none] m1 = .ok (.nx [some (.loc μ.length), some wg, none]) (m2.set μ.length (.ins 7 [("_conflicts", .loc l2)])) := by
        unfold s_fld
        rw [e2, Zdg, Zjt (w := .loc μ.length) rfl, Zdg]
        have : setFw 7 "_conflicts" (.loc l2) (.loc μ.length) m2 = some (m2.set μ.length (.ins 7 [("_conflicts", .loc l2)])) := by
          unfold setFw
          dsimp only
          rw [gi, Option.bind_some, if_pos ⟨rfl, by decide⟩]
          rfl
        rw [this]
      rw [Zi9 i1, i2, Zdg]
    rw [run, Zdg]
  · refine ⟨by rw [List.length_set]; exact Nat.le_trans (Nat.le_of_lt lm) a2.1, fun l hl => ?_⟩
    rw [List.getElem?_set_ne (by omega)]
    exact ((a0.trans a1).trans a2).2 l hl
  · refine cs_dt2 d2 dis (fun j hj => ⟨(fun z => nomatch z), List.getElem?_set_ne (by have := ne j hj; omega)⟩) fun j ws e => ⟨(fun z => nomatch z), ?_⟩
    rw [List.getElem?_set_ne (fun z => by rw [← z, ins] at e; cases e)]
    exact e
/-- a cell is no tuple -/
theorem cell_tup {c : List Nat} {μ : Mem} {s : Sd} (co : CO none c μ s) {l : Nat} (h : l ∈ c) {ws : List W} (e : μ[l]? = some (.tup ws)) : False := by
  obtain ⟨k, hk⟩ := List.mem_iff_getElem?.mp h
  have h1 : k < s.length := by rw [← co.len]; exact (List.getElem?_eq_some_iff.mp hk).1
  obtain ⟨u, e', d⟩ := co.ob k l s[k] hk (List.getElem?_eq_getElem h1)
  rw [e] at e'
  cases e'
  cases q : s[k] with
  | scr ns => rw [q] at d; cases d
  | lst ts => rw [q] at d; obtain ⟨ws, z, _⟩ := d; cases z
  | dic ts => rw [q] at d; obtain ⟨ws, z, _⟩ := d; cases z
  | ins n ts => rw [q] at d; obtain ⟨ws, z, _⟩ := d; cases z
theorem app_run2 {σ : En} {μ μ1 : Mem} {e : EM} {a : AM} {k : Nat} {ys : List W} {w : W} (he : e σ μ = .ok (.loc k) μ) (ha : a σ μ = .ok [w] μ1) (ap : App μ μ1) (hk : μ[k]? = some (.lst ys)) (hl : ys.length < LIM) :
    s_ex (e_bm isL Zfc e a) σ μ = .ok (.nx σ) (μ1.set k (.lst (ys ++ [w]))) := by
  have gl0 : getL μ (.loc k) = some ys := by show (match μ[k]? with | some (.lst xs) => some xs | _ => none) = _; rw [hk]
  have gl : getL μ1 (.loc k) = some ys := by show (match μ1[k]? with | some (.lst xs) => some xs | _ => none) = _; rw [ap.get hk]
  have il : isL μ (.loc k) = true := by unfold isL; rw [gl0]; rfl
  unfold s_ex e_bm
  rw [he, Zdg, if_pos il, ha, Zdg]
  have : Zfc (.loc k) [w] μ1 = some (.non, μ1.set k (.lst (ys ++ [w]))) := by
    unfold Zfc
    simp only [gl]
    rw [if_pos hl]
  rw [this]
  rfl
/-- what is not in js stays as it was -/
noncomputable def KpJ (js : List Nat) (μ m : Mem) : Prop := μ.length ≤ m.length ∧ ∀ j, j < μ.length → j ∉ js → m[j]? = μ[j]?
theorem KpJ.trans {js : List Nat} {a b c : Mem} (h : KpJ js a b) (h' : KpJ js b c) : KpJ js a c := ⟨Nat.le_trans h.1 h'.1, fun j hj n => (h'.2 j (Nat.lt_of_lt_of_le hj h.1) n).trans (h.2 j hj n)⟩
theorem KpJ.sub {js ks : List Nat} {a b : Mem} (h : KpJ js a b) (s : ∀ j ∈ js, j ∈ ks) : KpJ ks a b := ⟨h.1, fun j hj n => h.2 j hj fun z => n (s j z)⟩
theorem kp_set {μ μ1 : Mem} {k : Nat} {o : O} (ap : App μ μ1) : KpJ [k] μ (μ1.set k o) := ⟨by rw [List.length_set]; exact ap.1, fun j hj n => by
  rw [List.getElem?_set_ne (fun z => n (by rw [z]; exact List.mem_cons_self))]
  exact ap.2 j hj⟩

/-! copies, by the law's def and by the claim's property -/
theorem fn_ret {k : Nat} {e : EM} {ws : List W} {μ m : Mem} {w : W} (h : e (ws.map some ++ List.replicate (k - ws.length) none) μ = .ok w m) : fnOf k (Zet e) ws μ = .ok w m := by
  unfold fnOf Zet
  rw [h, Zdg, Zdg]
noncomputable abbrev flcE : EM := e_lc (Zhd (Zmx 7 "_conflicts" (Zah 0))) (g_n 1) Zj6 (e_cb Zh6 (Zac (Zah 1) a_nil)) [1]
theorem ap_fldE {c : Nat} {f : Str} {a : EM} (ha : ApE a) : ApE (Zmx c f a) := fun σ μ w m h => by
  unfold Zmx at h
  obtain ⟨x, m1, q1, h⟩ := Zf9 h
  have l1 := ha _ _ _ _ q1
  split at h
  · split at h
    · split at h
      · cases h; exact l1
      · cases h
    · cases h
  · cases h
theorem fv_flc : FvA flcE := fv_lc (ai_seq (ap_fldE ap_var)) at_yes (ap_list (ap_cons ap_var ap_nil)) (nv_list (ap_cons ap_var ap_nil))
theorem copied_run {cs : List (List Fc)} (hl : cs.length ≤ 1000) {μ : Mem} {w : W} (d : Dt none [] μ (csT cs) w) :
    ∃ l ks m, d__law_copied [w] μ = .ok (.loc l) m ∧ App μ m ∧ DisL l ks m ∧ (∀ k ∈ l :: ks, μ.length ≤ k) ∧ Dt none [] m (csT cs) (.loc l) := by
  have sd : SD none [] μ [some w, none] [some (csT cs), none] := .cons ⟨_, rfl, d⟩ (.cons True.intro .nil)
  obtain ⟨w2, m, e, a, d2⟩ := re_run (r_cpl 0 1) sd (Zhh (vs := [1]) (j := 1) Zj7 hl (Zf8 (Zaj (i := 0) rfl)) fun t => rfl)
  obtain ⟨l, ks, rfl, dis, new⟩ := fv_cpl 0 1 _ _ _ _ e
  exact ⟨l, ks, m, fn_ret e, a, dis, new, d2⟩
theorem conflicts_run {cs : List (List Fc)} (hl : cs.length ≤ 1000) {μ : Mem} {w : W} (d : Dt none [] μ (clmT cs) w) :
    ∃ l ks m, d_Claim_conflicts [w] μ = .ok (.loc l) m ∧ App μ m ∧ DisL l ks m ∧ (∀ k ∈ l :: ks, μ.length ≤ k) ∧ Dt none [] m (csT cs) (.loc l) := by
  have sd : SD none [] μ [some w, none] [some (clmT cs), none] := .cons ⟨_, rfl, d⟩ (.cons True.intro .nil)
  obtain ⟨w2, m, e, a, d2⟩ := re_run (r_lc (lk := none) [1] (Zi1 (r_fld (Zal 0))) (rg_n 1) Zjz (r_cb Zjg (Zae (Zal 1) Za4))) sd (Zhh (vs := [1]) (j := 1) Zj7 hl (Zf8 (Zkg (Zaj (i := 0) rfl))) fun t => rfl)
  obtain ⟨l, ks, rfl, dis, new⟩ := fv_flc _ _ _ _ e
  exact ⟨l, ks, m, fn_ret e, a, dis, new, d2⟩
/-! a list spoilt -/
noncomputable abbrev tpE20 : EM := Zgh (Zac (e_c (.str "a")) (Zac (e_c (.str "a")) (Zac (e_c (.int 0)) a_nil)))
noncomputable abbrev spS20 : SM := s_ex (e_bm isL Zfc (Zah 1) (Zac tpE20 a_nil))
theorem tp20_run (σ : En) (μ : Mem) : tpE20 σ μ = .ok (.loc μ.length) (μ ++ [.tup [.str "a", .str "a", .int 0]]) := et_run (Zhf rfl (Zhf rfl (Zhf rfl rfl))) (by show 3 ≤ 100000; decide)
theorem sp20_run {l : Nat} {xs : List W} {v0 : Option W} : ∀ (js : List Nat) (i : Nat) (v1 : Option W) (μ : Mem), js.Nodup → l ∉ js → μ[l]? = some (.lst xs) → (∀ k ∈ js, ∃ ys, μ[k]? = some (.lst ys) ∧ ys.length < LIM) →
    ∃ v1' m, forI ⟨xs, chkL (.loc l) xs, false⟩ (g_n 1) spS20 i (js.map W.loc) [v0, v1] μ = .ok (.nx [v0, v1']) m ∧ KpJ js μ m
  | [], i, v1, μ, _, _, hl, _ => by
    have ck : chkL (.loc l) xs μ = true := by
      unfold chkL
      exact decide_eq_true (by show (match μ[l]? with | some (.lst xs) => some xs | some (.scr ns) => some (ns.map W.int) | _ => none) = _; rw [hl])
    refine ⟨v1, μ, ?_, Nat.le_refl _, fun _ _ _ => rfl⟩
    rw [List.map_nil]
    unfold forI
    rw [if_pos ck]
  | k :: js, i, v1, μ, nd, nl, hl, hk => by
    have ck : chkL (.loc l) xs μ = true := by
      unfold chkL
      exact decide_eq_true (by show (match μ[l]? with | some (.lst xs) => some xs | some (.scr ns) => some (ns.map W.int) | _ => none) = _; rw [hl])
    obtain ⟨ys, hy, ly⟩ := hk k List.mem_cons_self
    have nd' := List.nodup_cons.mp nd
    have lk : k ≠ l := fun z => nl (z ▸ List.mem_cons_self)
    have ap : App μ (μ ++ [O.tup [W.str "a", W.str "a", W.int 0]]) := App.push _ _
    have one : spS20 [v0, some (.loc k)] μ = .ok (.nx [v0, some (.loc k)]) ((μ ++ [O.tup [W.str "a", W.str "a", W.int 0]]).set k (O.lst (ys ++ [W.loc μ.length]))) :=
      app_run2 (Zjt rfl) (Zhf (tp20_run _ _) rfl) ap hy ly
    have kp1 : KpJ [k] μ ((μ ++ [O.tup [W.str "a", W.str "a", W.int 0]]).set k (O.lst (ys ++ [W.loc μ.length]))) := kp_set ap
    obtain ⟨v1', m, r1, r2⟩ := sp20_run (l := l) (xs := xs) (v0 := v0) js (i + 1) (some (.loc k)) ((μ ++ [O.tup [W.str "a", W.str "a", W.int 0]]).set k (O.lst (ys ++ [W.loc μ.length]))) nd'.2 (fun z => nl (List.mem_cons_of_mem _ z))
      ((kp1.2 l (Zdf hl) (fun z => lk (List.mem_singleton.mp z).symm)).trans hl) (fun j hj => by
        obtain ⟨zs, hz, lz⟩ := hk j (List.mem_cons_of_mem _ hj)
        exact ⟨zs, (kp1.2 j (Zdf hz) (fun z => nd'.1 (by rw [← List.mem_singleton.mp z]; exact hj))).trans hz, lz⟩)
    refine ⟨v1', m, ?_, (kp1.sub fun j hj => by rw [List.mem_singleton.mp hj]; exact List.mem_cons_self).trans (r2.sub fun j hj => List.mem_cons_of_mem _ hj)⟩
    rw [List.map_cons]
    unfold forI
    rw [if_pos ck]
    show (spS20 [v0, some (.loc k)] μ).bind _ = _
    rw [one, Zdg]
    exact r1
/-- the lists hold few facts -/
theorem dis_short {cs : List (List Fc)} (ok : CsOk cs) {m : Mem} {l : Nat} {ks : List Nat} (d : Dt none [] m (csT cs) (.loc l)) (dis : DisL l ks m) : ks.length = cs.length ∧ ∀ j ∈ ks, ∃ ys, m[j]? = some (.lst ys) ∧ ys.length < LIM := by
  have r1 := cs_of d dis
  have ln : ks.length = cs.length := by
    have := dtl_len r1
    rw [List.length_map, List.length_map] at this
    exact this
  refine ⟨ln, fun j hj => ?_⟩
  obtain ⟨i, hi⟩ := List.mem_iff_getElem?.mp hj
  have li : i < cs.length := by rw [← ln]; exact (List.getElem?_eq_some_iff.mp hi).1
  have d := dtl_at (k := i) (t := fsT cs[i]) (w := .loc j) r1 (by rw [List.getElem?_map, List.getElem?_eq_getElem li]; rfl) (by rw [List.getElem?_map, hi]; rfl)
  unfold fsT Dt at d
  obtain ⟨l', ws, z, _, a, r⟩ := d
  cases z
  refine ⟨ws, a, ?_⟩
  have := dtl_len r
  rw [List.length_map] at this
  have := (ok.1 _ (List.getElem_mem li)).2.1
  show _ < 100000
  omega
theorem spoil_run {cs : List (List Fc)} (ok : CsOk cs) {μ : Mem} {l : Nat} {ks : List Nat} (dis : DisL l ks μ) (ln : ks.length = cs.length) (kc : ∀ j ∈ ks, ∃ ys, μ[j]? = some (.lst ys) ∧ ys.length < LIM) : ∃ m, d__law_spoil [.loc l] μ = .ok .non m ∧ KpJ (l :: ks) μ m := by
  have nd := List.nodup_cons.mp dis.2.1
  obtain ⟨u1, m3, e3, kp3⟩ := sp20_run (l := l) (xs := ks.map W.loc) (v0 := some (.loc l)) ks 0 none μ nd.2 nd.1 dis.1 kc
  have p3 : Ziu (Zhd (Zah 0)) (g_n 1) spS20 [some (.loc l), none] μ = .ok (.nx [some (.loc l), u1]) m3 := by
    have gr : getR μ (.loc l) = some (ks.map W.loc) := by
      show (match μ[l]? with | some (.lst xs) => some xs | some (.scr ns) => some (ns.map W.int) | _ => none) = _
      rw [dis.1]
    have en : Zhd (Zah 0) [some (.loc l), none] μ = .ok ⟨ks.map W.loc, chkL (.loc l) (ks.map W.loc), false⟩ μ := by
      unfold Zhd
      rw [Zjt (w := .loc l) rfl, Zdg, gr]
    unfold Ziu
    rw [en, Zdg]
    exact e3
  have l3 : m3[l]? = some (.lst (ks.map W.loc)) := (kp3.2 l (Zdf dis.1) nd.1).trans dis.1
  have ap4 : App m3 (m3 ++ [O.lst []]) := App.push _ _
  have p4 : s_ex (e_bm isL Zfc (Zah 0) (Zac (Ze7 a_nil) a_nil)) [some (.loc l), u1] m3 = .ok (.nx [some (.loc l), u1]) ((m3 ++ [O.lst []]).set l (O.lst (ks.map W.loc ++ [W.loc m3.length]))) := by
    refine app_run2 (Zjt rfl) (Zhf ?_ rfl) ap4 l3 (by
      rw [List.length_map, ln]
      have := ok.2
      show _ < 100000
      omega)
    unfold Ze7
    rw [show a_nil [some (.loc l), u1] m3 = .ok [] m3 from rfl, Zdg, if_pos (by show 0 ≤ 100000; decide)]
  refine ⟨(m3 ++ [O.lst []]).set l (O.lst (ks.map W.loc ++ [W.loc m3.length])), ?_, (kp3.sub fun j hj => List.mem_cons_of_mem _ hj).trans ((kp_set ap4).sub fun j hj => by rw [List.mem_singleton.mp hj]; exact List.mem_cons_self)⟩
  show ((Zcg (Ziu (Zhd (Zah 0)) (g_n 1) spS20) (s_ex (e_bm isL Zfc (Zah 0) (Zac (Ze7 a_nil) a_nil)))) [some (.loc l), none] μ).bind _ = _
  rw [Zi9 p3, p4, Zdg]
end Pr
namespace Pr
open PySem L2 Vs
/-! ### k20's block: conflicts are copied, claims made of the copies, the copy and what a claim shows spoilt -/
theorem kp_app {js : List Nat} {μ m : Mem} (a : App μ m) : KpJ js μ m := ⟨a.1, fun j hj _ => a.2 j hj⟩
/-- a claim whose lists are none of those that are spoilt -/
theorem clm_keep {cs : List (List Fc)} {c : List Nat} {m m' : Mem} {p l2 : Nat} {ks2 L : List Nat} (d : Dt none [] m (csT cs) (.loc l2)) (dis : DisL l2 ks2 m) (ins : m[p]? = some (.ins 7 [("_conflicts", .loc l2)])) (kp : KpJ L m m') (hL : ∀ j ∈ L, ∃ ys, m[j]? = some (.lst ys)) (n1 : ∀ j ∈ l2 :: ks2, j ∉ L) (n2 : ∀ j ∈ l2 :: ks2, j ∉ c) (np : p ∉ c) (ct : ∀ (j : Nat) (ws : List W), m'[j]? = some (.tup ws) → j ∉ c) : Dt none c m' (clmT cs) (.loc p) := by
  have d5 : Dt none c m' (csT cs) (.loc l2) := cs_dt2 d dis (fun j hj => ⟨n2 j hj, kp.2 j (dis.2.2 j hj) (n1 j hj)⟩) fun j ws e => by
    have e5 := (kp.2 j (Zdf e) (fun z => by
      obtain ⟨ys, e2⟩ := hL j z
      rw [e2] at e; cases e)).trans e
    exact ⟨ct j ws e5, e5⟩
  unfold clmT Dt
  refine ⟨p, [("_conflicts", .loc l2)], rfl, np, (kp.2 p (Zdf ins) (fun z => by
    obtain ⟨ys, e2⟩ := hL p z
    rw [e2] at ins; cases ins)).trans ins, ?_⟩
  unfold DtF
  refine ⟨_, _, rfl, d5, ?_⟩
  unfold DtF
  rfl
noncomputable abbrev gwA : SM := Zes (e_call d__law_copied (Zac (Zah 8) a_nil)) (g_n 10)
noncomputable abbrev gwB : SM := s_par 11 12 (Zac (e_make 7 d_Claim_init (Zac (Zah 10) a_nil)) (Zac (e_make 7 d_Claim_init (Zac (e_call d__law_copied (Zac (Zah 9) a_nil)) a_nil)) a_nil))
noncomputable abbrev gwC : SM := s_if (Zgn (Za2 pNe (Zfr (Zf4 7 d_Claim_conflicts (Zah 11))) (Zfr (Zah 8)))) (Zet (e_c (.bl false))) Ze4
noncomputable abbrev gwD : SM := s_ex (e_call d__law_spoil (Zac (Zah 10) a_nil))
noncomputable abbrev gwE : SM := s_ex (e_call d__law_spoil (Zac (Zf4 7 d_Claim_conflicts (Zah 11)) a_nil))
noncomputable def GvOk20 (cs ds : List (List Fc)) (δ : Ed) (s : Sd) : Prop := δ.length = 13 ∧ Cs20 cs ∧ Cs20 ds ∧ PureS s ∧ δ[8]? = some (some (csT cs)) ∧ δ[9]? = some (some (csT ds))
noncomputable def gvE20 (δ : Ed) (t u : T) : Ed := ((δ.set 10 none).set 11 (some t)).set 12 (some u)
noncomputable def Zms (REST : DSt) : DSt := fun δ s => @dite _ (∃ p : List (List Fc) × List (List Fc), GvOk20 p.1 p.2 δ s) (Classical.propDecidable _) (fun _ => match δ[8]?, δ[9]? with
  | some (some t), some (some u) => REST (gvE20 δ (.ins 7 [("_conflicts", t)]) (.ins 7 [("_conflicts", u)])) s
  | _, _ => .bad) fun _ => .bad
theorem xs_gv20_of {REST : DSt} {cs ds : List (List Fc)} {δ : Ed} {s : Sd} (h : GvOk20 cs ds δ s) : Zms REST δ s = REST (gvE20 δ (clmT cs) (clmT ds)) s := by
  unfold Zms
  rw [dif_pos ⟨(cs, ds), h⟩, h.2.2.2.2.1, h.2.2.2.2.2]
theorem rs_gv20 {R : SM} {REST : DSt} (hR : RSt none R REST) : RSt none (Zcg gwA (Zcg gwB (Zcg gwC (Zcg gwD (Zcg gwE R))))) (Zms REST) := by
  intro c μ σ δ s co sd
  by_cases h : ∃ p : List (List Fc) × List (List Fc), GvOk20 p.1 p.2 δ s
  · obtain ⟨⟨cs, ds⟩, hg⟩ := h
    rw [xs_gv20_of hg]
    obtain ⟨δl, oc, od, hs, i8, i9⟩ := hg
    have ok := oc.c8.ok
    have ok2 := od.c8.ok
    have sl : σ.length = 13 := by rw [← δl]; exact Paired.length sd
    obtain ⟨w8, s8, d8⟩ := sd_at sd i8
    obtain ⟨w9, s9, d9⟩ := sd_at sd i9
    obtain ⟨v0, v1, v2, v3, v4, v5, v6, v7, v8, v9, v10, v11, v12, rfl⟩ : ∃ v0 v1 v2 v3 v4 v5 v6 v7 v8 v9 v10 v11 v12, σ = [v0, v1, v2, v3, v4, v5, v6, v7, v8, v9, v10, v11, v12] := by
      match σ, sl with
      | [v0, v1, v2, v3, v4, v5, v6, v7, v8, v9, v10, v11, v12], _ => exact ⟨_, _, _, _, _, _, _, _, _, _, _, _, _, rfl⟩
    have h8 : v8 = some w8 := Option.some.inj s8
    have h9 : v9 = some w9 := Option.some.inj s9
    clear s8 s9
    subst h8
    subst h9
    have d8n : Dt none [] μ (csT cs) w8 := dt_nilP PD (Zmm cs) d8
    have d9n : Dt none [] μ (csT ds) w9 := dt_nilP PD (Zmm ds) d9
    -- the copy
    obtain ⟨l, ks, m1, r1, a1, dis, new, dg⟩ := copied_run ok.2 d8n
    have p1 : gwA [v0, v1, v2, v3, v4, v5, v6, v7, some w8, some w9, v10, v11, v12] μ = .ok (.nx [v0, v1, v2, v3, v4, v5, v6, v7, some w8, some w9, some (.loc l), v11, v12]) m1 := by
      unfold gwA Zes
      rw [show e_call d__law_copied (Zac (Zah 8) a_nil) [v0, v1, v2, v3, v4, v5, v6, v7, some w8, some w9, v10, v11, v12] μ = .ok (.loc l) m1 from by
        unfold e_call
        rw [show (Zac (Zah 8) a_nil) [v0, v1, v2, v3, v4, v5, v6, v7, some w8, some w9, v10, v11, v12] μ = .ok [w8] μ from Zhf (Zjt rfl) rfl, Zdg, r1], Zdg]
      rfl
    -- the claims
    obtain ⟨l2, ks2, m2, r2, a2, ins2, dis2, new2, d2⟩ := make_run (r := Zac (Zah 10) a_nil) (σ := [v0, v1, v2, v3, v4, v5, v6, v7, some w8, some w9, some (.loc l), v11, v12]) (μ0 := m1) ok (Zhf (Zjt rfl) rfl) dg
    obtain ⟨l', ks', m3, r3, a3, dis', new', dg'⟩ := copied_run ok2.2 (dt_app (a1.trans a2) d9n)
    have ar : (Zac (e_call d__law_copied (Zac (Zah 9) a_nil)) a_nil) [v0, v1, v2, v3, v4, v5, v6, v7, some w8, some w9, some (.loc l), v11, v12] m2 = .ok [.loc l'] m3 := by
      refine Zhf ?_ rfl
      unfold e_call
      rw [show (Zac (Zah 9) a_nil) [v0, v1, v2, v3, v4, v5, v6, v7, some w8, some w9, some (.loc l), v11, v12] m2 = .ok [w9] m2 from Zhf (Zjt rfl) rfl, Zdg, r3]
    obtain ⟨l3, ks3, m4, r4, a4, ins3, dis3, new3, d3⟩ := make_run ok2 ar dg'
    have p2 : gwB [v0, v1, v2, v3, v4, v5, v6, v7, some w8, some w9, some (.loc l), v11, v12] m1 = .ok (.nx [v0, v1, v2, v3, v4, v5, v6, v7, some w8, some w9, some (.loc l), some (.loc m1.length), some (.loc m3.length)]) m4 := by
      unfold gwB s_par
      rw [Zhf r2 (Zhf r4 rfl), Zdg]
      rfl
    have a24 : App m2 m4 := a3.trans a4
    -- its text
    have dc4 : Dt none [] m4 (clmT cs) (.loc m1.length) := by
      unfold clmT Dt
      refine ⟨m1.length, [("_conflicts", .loc l2)], rfl, (fun z => nomatch z), a24.get ins2, ?_⟩
      unfold DtF
      refine ⟨_, _, rfl, dt_app a24 d2, ?_⟩
      unfold DtF
      rfl
    have sd4 : SD none [] m4 [v0, v1, v2, v3, v4, v5, v6, v7, some w8, some w9, some (.loc l), some (.loc m1.length), some (.loc m3.length)] [none, none, none, none, none, none, none, none, some (csT cs), none, none, some (clmT cs), none] := .cons True.intro (.cons True.intro (.cons True.intro (.cons True.intro (.cons True.intro (.cons True.intro (.cons True.intro (.cons True.intro (.cons ⟨_, rfl, dt_app ((a1.trans a2).trans a24) d8n⟩ (.cons True.intro (.cons True.intro (.cons ⟨_, rfl, dc4⟩ (.cons True.intro .nil))))))))))))
    obtain ⟨m5, r5, a5⟩ := rtt_run (Zgc (Zbt Znt (Zhe (Zi4 Zc6 (Zal 11))) (Zhe (Zal 8)))) sd4 (b := false) (l_neR oc.c8 (Zi6 Zj7 oc.c8 (Zaj (i := 11) rfl)) (Zaj (i := 8) rfl))
    have p3 : gwC [v0, v1, v2, v3, v4, v5, v6, v7, some w8, some w9, some (.loc l), some (.loc m1.length), some (.loc m3.length)] m4 = .ok (.nx [v0, v1, v2, v3, v4, v5, v6, v7, some w8, some w9, some (.loc l), some (.loc m1.length), some (.loc m3.length)]) m5 := by
      unfold gwC s_if
      rw [r5, Zdg, if_neg Bool.false_ne_true]
      rfl
    -- the copy is spoilt
    have a15 : App m1 m5 := (a2.trans a24).trans a5
    have dis5 : DisL l ks m5 := dis.app a15
    obtain ⟨ln, kc⟩ := dis_short ok dg dis
    obtain ⟨m6, r6, kp6⟩ := spoil_run ok dis5 ln fun j hj => by
      obtain ⟨ys, e, q⟩ := kc j hj
      exact ⟨ys, a15.get e, q⟩
    have p4 : gwD [v0, v1, v2, v3, v4, v5, v6, v7, some w8, some w9, some (.loc l), some (.loc m1.length), some (.loc m3.length)] m5 = .ok (.nx [v0, v1, v2, v3, v4, v5, v6, v7, some w8, some w9, some (.loc l), some (.loc m1.length), some (.loc m3.length)]) m6 := by
      unfold gwD s_ex e_call
      rw [show (Zac (Zah 10) a_nil) [v0, v1, v2, v3, v4, v5, v6, v7, some w8, some w9, some (.loc l), some (.loc m1.length), some (.loc m3.length)] m5 = .ok [.loc l] m5 from Zhf (Zjt rfl) rfl, Zdg, r6, Zdg]
    -- what the claim holds is none of it
    have lL : ∀ (m : Mem), App m1 m → ∀ j ∈ l :: ks, ∃ ys, m[j]? = some (.lst ys) := fun m a j hj => by
      rcases List.mem_cons.mp hj with rfl | z
      · exact ⟨_, a.get dis.1⟩
      · obtain ⟨ys, e, _⟩ := kc j z
        exact ⟨ys, a.get e⟩
    have up : ∀ j ∈ l :: ks, j < m1.length := dis.2.2
    have kp26 : KpJ (l :: ks) m2 m6 := (kp_app (a24.trans a5)).trans kp6
    have dc6 : Dt none [] m6 (clmT cs) (.loc m1.length) := clm_keep d2 dis2 ins2 kp26 (lL m2 a2) (fun j hj z => by have := new2 j hj; have := up j z; omega) (fun j hj z => nomatch z) (fun z => nomatch z) fun j ws e z => nomatch z
    -- what it shows is spoilt
    obtain ⟨l4, ks4, m7, r7, a7, dis4, new4, d7⟩ := conflicts_run ok.2 dc6
    obtain ⟨ln4, kc4⟩ := dis_short ok d7 dis4
    obtain ⟨m8, r8, kp8⟩ := spoil_run ok dis4 ln4 kc4
    have ic : isC 7 m6 (.loc m1.length) = true := by
      unfold clmT Dt at dc6
      obtain ⟨lz, ws, e, _, a, _⟩ := dc6
      cases e
      unfold isC getI
      simp only [a]
      rfl
    have p5 : gwE [v0, v1, v2, v3, v4, v5, v6, v7, some w8, some w9, some (.loc l), some (.loc m1.length), some (.loc m3.length)] m6 = .ok (.nx [v0, v1, v2, v3, v4, v5, v6, v7, some w8, some w9, some (.loc l), some (.loc m1.length), some (.loc m3.length)]) m8 := by
      unfold gwE s_ex e_call
      have e1 : Zf4 7 d_Claim_conflicts (Zah 11) [v0, v1, v2, v3, v4, v5, v6, v7, some w8, some w9, some (.loc l), some (.loc m1.length), some (.loc m3.length)] m6 = .ok (.loc l4) m7 := by
        unfold Zf4
        rw [Zjt (w := .loc m1.length) rfl, Zdg, if_pos ic, r7]
      rw [Zhf e1 rfl, Zdg, r8, Zdg]
    have a68 : App m6 m8 := ⟨Nat.le_trans a7.1 kp8.1, fun j hj => (kp8.2 j (Nat.lt_of_lt_of_le hj a7.1) (fun z => by have := new4 j z; omega)).trans (a7.2 j hj)⟩
    have kp28 : KpJ (l :: ks) m2 m8 := kp26.trans (kp_app a68)
    have kp48 : KpJ (l :: ks) m4 m8 := ((kp_app a5).trans kp6).trans (kp_app a68)
    -- what was there
    have ap08 : App μ m8 := ⟨Nat.le_trans (Nat.le_trans a1.1 a2.1) kp28.1, fun j hj => by
      have j2 : j < m2.length := Nat.lt_of_lt_of_le hj (Nat.le_trans a1.1 a2.1)
      exact (kp28.2 j j2 (fun z => by have := new j z; omega)).trans ((a1.trans a2).2 j hj)⟩
    obtain ⟨nx08, co8⟩ := co_app co ap08
    have low : ∀ j ∈ c, j < μ.length := fun j hj => co.low hj
    have ct : ∀ (j : Nat) (ws : List W), m8[j]? = some (.tup ws) → j ∉ c := fun j ws e z => cell_tup co8 z e
    have dc : Dt none c m8 (clmT cs) (.loc m1.length) := clm_keep d2 dis2 ins2 kp28 (lL m2 a2) (fun j hj z => by have := new2 j hj; have := up j z; omega) (fun j hj z => by have := new2 j hj; have := low j z; have := a1.1; omega) (fun z => by have := low _ z; have := a1.1; omega) ct
    have l13 : m1.length ≤ m3.length := Nat.le_trans a2.1 a3.1
    have dd : Dt none c m8 (clmT ds) (.loc m3.length) := clm_keep d3 dis3 ins3 kp48 (lL m4 (a2.trans a24)) (fun j hj z => by have := new3 j hj; have := up j z; omega) (fun j hj z => by have := new3 j hj; have := low j z; have := a1.1; omega) (fun z => by have := low _ z; have := a1.1; omega) ct
    have sd8 : SD none c m8 [v0, v1, v2, v3, v4, v5, v6, v7, some w8, some w9, some (.loc l), some (.loc m1.length), some (.loc m3.length)] (gvE20 δ (clmT cs) (clmT ds)) :=
      Zhn (Zg8 dd) 12 (Zhn (Zg8 dc) 11 (Zhn (w := some (.loc l)) (t := none) True.intro 10 (sd.mono nx08)))
    rw [Zi9 p1, Zi9 p2, Zi9 p3, Zi9 p4, Zi9 p5]
    exact rr_pre nx08 (hR co8 sd8)
  · unfold Zms
    rw [dif_neg h]
    exact True.intro
end Pr
namespace Pr
open PySem L2 Vs
noncomputable def q_law : DFn := Ze8 13 (Zar (Zb4 (x_c .non) (xg_n 1)) (Zar (Zkl [11] 1 2 (Zht 7 Zb1 (Zaa (Zgs 7 Zc8 (Zaa (Zej Zaf) Zaf)) Zaf))) (Zar (Zf6 (Zf0 (Zf2 (x_isX [11] 11 (Zad 1)))) (Zde (x_c (.bl false))) Zei) (Zar (Zgz [0, 1] (Zf3 (Zff (Zej (Zaa (x_c .non) (Zaa (x_c (.int 0)) (Zaa (x_c (.bl true)) (Zaa (x_c (.str "")) (Zaa (Zep Zaf) (Zaa Zi5 (Zaa (Zep (Zaa (Zej (Zaa (Zep (Zaa (x_c (.str "a")) (Zaa (x_c (.int 0)) (Zaa (x_c (.int 1)) Zaf)))) Zaf)) Zaf)) (Zaa (Zep (Zaa (x_c (.str "a")) (Zaa (x_c (.int 0)) (Zaa (x_c (.int 1)) Zaf)))) (Zaa (Zi3 (Zaa (Zep (Zaa (x_c (.str "a")) (Zaa (x_c (.int 0)) (Zaa (x_c (.int 1)) Zaf)))) Zaf)) (Zaa (x_c (.str "abc")) Zaf)))))))))))) (xg_n 3) (Zf6 (Zf0 (Zf2 (Zbs Zdn (Zaa (Zad 3) Zaf)))) (Zde (x_c (.bl false))) Zei))) (Zar (Zf3 (Zgu (x_cb yMax (Zaa (x_c (.int 1)) (Zaa (x_cb yLen (Zaa (x_sl (Zad 0) Ziv (Zft (x_c (.int 63)))) Zaf)) Zaf)))) (xg_n 4) (Zar (Zb4 (Zbs Zgq (Zaa (Zad 0) (Zaa (Zad 4) Zaf))) (xg_n 5)) (Zar (Zgz [0, 1, 4, 5, 6] (Zar (Zb4 (Zi3 (Zaa (x_c (.int 0)) Zaf)) (xg_n 6)) (Zf3 (Zgu (x_c (.int 4))) (xg_n 7) (Zm3 (x_bm isLT Zgg (Zad 6) (Zaa (Zbs Zgb (Zaa (Zad 5) (Zaa (Zad 6) Zaf))) Zaf)))))) (Zar (Zmz 8 9 (Zaa (Zbs Zfy (Zaa (Zad 5) (Zaa (Zad 6) Zaf))) (Zaa (Zbs Zfy (Zaa (Zad 5) (Zaa (Zad 6) Zaf))) Zaf))) (Zms (Zar (Zf6 (Zic (Zem (Zap yNe (Ze6 (Zgk 7 Za5 (Zad 11))) (Ze6 (Zad 8)))) (Zic (Zf0 (Zf2 (Zhm "list" (Zgk 7 Za5 (Zad 11))))) (Zem (x_oeqL 7 Zcd (Zad 11) (Zad 8))))) (Zde (x_c (.bl false))) Zei) (Zar (Zf6 (Zic (Zem (x_one 7 Zcd (Zad 11) (Zgs 7 Zc8 (Zaa (Zbs Zdx (Zaa (Zad 8) Zaf)) Zaf)))) (Zic (Zem (Zap yNe (Zns 7 Zcd (Zad 11) (Zad 12)) (Zap yEq (Zad 8) (Zad 9)))) (Zf0 (Zem (x_oneL 7 Zcd (Zad 11) (Zad 8)))))) (Zde (x_c (.bl false))) Zei) (Zar (Zf6 (Zf0 (Zf2 (Zbs Ze1 (Zaa (Zad 11) (Zaa (Zad 12) (Zaa (Zad 8) (Zaa (Zad 9) Zaf))))))) (Zde (x_c (.bl false))) Zei) (Zf3 (Zgu (x_c (.int 3))) (xg_n 7) (Zf6 (Zf0 (Zf2 (x_scope (Zbs Zdn (Zaa (Zbs Zey (Zaa (Zad 5) (Zaa (Zad 8) Zaf))) Zaf))))) (Zde (x_c (.bl false))) Zei)))))))))) (Zde (x_c (.bl true))))))))
theorem rf_law : RF d_law q_law := Zfa (Zb9 (Zeg r_non (rg_n 1)) (Zb9 (rs_tryL (r_makeX Zij (Zae (r_make Zgm (Zae (Zgf Za4) Za4)) Za4))) (Zb9 (Zit (Zh9 (Zh2 (r_isX (Zal 1)))) (Zeh (r_bl false)) Zfd) (Zb9 (rs_blkK (Zlg (Zi1 (Zgf (Zae r_non (Zae (Zbq 0) (Zae (r_bl true) (Zae (Zf1 "") (Zae (Zh0 Za4) (Zae r_dnew (Zae (Zh0 (Zae (Zgf (Zae (Zh0 (Zae (Zf1 "a") (Zae (Zbq 0) (Zae (Zbq 1) Za4)))) Za4)) Za4)) (Zae (Zh0 (Zae (Zf1 "a") (Zae (Zbq 0) (Zae (Zbq 1) Za4)))) (Zae (r_lstC (Zae (Zh0 (Zae (Zf1 "a") (Zae (Zbq 0) (Zae (Zbq 1) Za4)))) Za4)) (Zae (Zf1 "abc") Za4)))))))))))) (rg_n 3) (Zit (Zh9 (Zh2 (Zdq Zig (Zae (Zal 3) Za4)))) (Zeh (r_bl false)) Zfd))) (Zb9 (Zlg (Znd (r_cb rn_max (Zae (Zbq 1) (Zae (r_cb Zjx (Zae (r_sl (Zal 0) Zk4 (Zha (Zbq 63))) Za4)) Za4)))) (rg_n 4) (Zb9 (Zeg (Zdq rf__law_purse (Zae (Zal 0) (Zae (Zal 4) Za4))) (rg_n 5)) (rs_assoc (Zb9 (rs_blkK (Zb9 (Zeg (r_lstC (Zae (Zbq 0) Za4)) (rg_n 6)) (Zlg (Znd (Zbq 4)) (rg_n 7) (rs_ex (r_bm rc_list Zjp (Zal 6) (Zae (Zdq rf__law_name (Zae (Zal 5) (Zae (Zal 6) Za4))) Za4)))))) (Zb9 (rs_par (Zae (Zdq Zj4 (Zae (Zal 5) (Zae (Zal 6) Za4))) (Zae (Zdq Zj4 (Zae (Zal 5) (Zae (Zal 6) Za4))) Za4))) (rs_gv20 (Zb9 (Zit (rt_or (Zgc (Zbt Znt (Zhe (Zi4 Zc6 (Zal 11))) (Zhe (Zal 8)))) (rt_or (Zh9 (Zh2 (r_isT (Zi4 Zc6 (Zal 11))))) (Zgc (r_oeqL Zf5 (Zal 11) (Zal 8))))) (Zeh (r_bl false)) Zfd) (Zb9 (Zit (rt_or (Zgc (r_one Zf5 (Zal 11) (r_make Zgm (Zae (Zdq Zg7 (Zae (Zal 8) Za4)) Za4)))) (rt_or (Zgc (Zbt Znt (r_oeq Zf5 (Zal 11) (Zal 12)) (Zbt ro_eq (Zal 8) (Zal 9)))) (Zh9 (Zgc (r_oneL Zf5 (Zal 11) (Zal 8)))))) (Zeh (r_bl false)) Zfd) (Zb9 (Zit (Zh9 (Zh2 (Zdq Znm (Zae (Zal 11) (Zae (Zal 12) (Zae (Zal 8) (Zae (Zal 9) Za4))))))) (Zeh (r_bl false)) Zfd) (Zlg (Znd (Zbq 3)) (rg_n 7) (Zit (Zh9 (Zh2 (r_scope (Zdq Zig (Zae (Zdq Zly (Zae (Zal 5) (Zae (Zal 8) Za4))) Za4))))) (Zeh (r_bl false)) Zfd))))))))))) (Zeh (r_bl true)))))))
end Pr
namespace Pr
open PySem L2 Vs
/-! ### sorted(d.items()) of dictionaries of ranks -/
end Pr
namespace Pr
open PySem L2 Vs
/-! ### laws of the second family over the first numbers of the script -/
structure LT2 (ns : List Int) (s : Sd) : Prop where
  len : 1 ≤ s.length
  scr : s[0]? = some (.scr ns)
  pu : PureS s
theorem LT2.step {ns : List Int} {s s' : Sd} {k : Nat} (h : LT2 ns s) (m : Sm k s s') (hk : k ≠ 0) (p : PureS s') : LT2 ns s' := ⟨by rw [m.1]; exact h.len, (m.2 0 (Ne.symm hk)).trans h.scr, p⟩
noncomputable abbrev cells63 : DI := Zgu (x_cb yMax (Zaa (x_c (.int 1)) (Zaa (x_cb yLen (Zaa (x_sl (Zad 0) Ziv (Zft (x_c (.int 63)))) Zaf)) Zaf)))
/-! ### comparisons -/
section
variable {s : Sd} {P : T → Sd → Prop} {t u : T}
theorem ne_bl {a b : Bool} : wp (Zbw (yNe (.bl a) (.bl b) s)) P = P (.bl (!decide (a = b))) s := by
  have e : decide (W.bl a = W.bl b) = decide (a = b) := by by_cases h : a = b <;> simp [h]
  show P (.bl (!decide (W.bl a = W.bl b))) s = _
  rw [e]
end
section
variable {s : Sd} {ss us : List Se} {V W : Str → Int} {P : T → Sd → Prop}
end
/-! ### orders, copies -/
section
variable {s : Sd} (hs : PureS s)
include hs
end
end Pr
namespace Pr
open PySem L2 Vs
/-! ### a block behind which only the listed names are known -/
theorem ws_blkK2 {s : Sd} {ks : List Nat} {b : DSt} {δ : Ed} {P : DFl → Sd → Prop} (h : wp (b δ s) fun f s1 => ∃ δ1 δ2, f = .nx δ1 ∧ frK s.length s1 ks 0 δ1 = some δ2 ∧ PureS (s1.take s.length) ∧ P (.nx δ2) (s1.take s.length)) : wp (Zgz ks b δ s) P := by
  obtain ⟨f, s1, e, δ1, δ2, rfl, e1, e2, e3⟩ := Zlm h
  unfold Zgz
  rw [e]
  dsimp only
  rw [e1, Zfk _ _ e2]
  exact e3
theorem Zfe {n : Nat} {s : Sd} {ks : List Nat} {i : Nat} {t u : T} {r us : Ed} (hi : i ∈ ks) (h1 : fr n s FU t = some u) (h2 : frK n s ks (i + 1) r = some us) : frK n s ks i (some t :: r) = some (some u :: us) := by
  unfold frK
  rw [if_pos hi]
  dsimp only
  rw [h1, Option.bind_some, h2]
  rfl
theorem Zng {n : Nat} {s : Sd} {ks : List Nat} : ∀ {r : Ed} {i : Nat}, (∀ j, i ≤ j → j ∉ ks) → frK n s ks i r = some (r.map fun _ => none)
  | [], _, _ => rfl
  | x :: r, i, h => by
    unfold frK
    rw [if_neg (h i (Nat.le_refl _)), Zng fun j hj => h j (by omega)]
    rfl
theorem fr_low2 {n k : Nat} {s : Sd} (h : k < n) : fr n s FU (.cell k) = some (.cell k) := by
  show (if k < n then some (T.cell k) else _) = _
  rw [if_pos h]
end Pr
namespace Pr
open PySem L2 Vs
/-! ### what stands before the law's loop -/
theorem scr_pure {ns : List Int} : PureS [TO.scr ns] := fun o ho => by rw [List.mem_singleton.mp ho]; rfl
noncomputable abbrev Zek : T := clmT []
/-- a claim is no list of conflicts (what the text of are_conflicts must give, once it is printed for instances too) -/
noncomputable def NoCl : Prop := ∀ s : Sd, PureS s → Is (Zc5 [Zek] s) (.bl false) s
theorem no_cl : NoCl := fun s hs => by
  unfold Zc5
  refine Zez hs rfl ?_
  have e0 : List.map some [Zek] ++ List.replicate (2 - [Zek].length) none = [some Zek, none] := rfl
  have ty : Is (Zle "list" [7] (Zad 0) [some Zek, none] s) (.bl false) s := by
    unfold Zle
    rw [(Zaj (i := 0) rfl).eq, Zce]
    exact ⟨rfl, rfl⟩
  rw [e0, Za6, Zbr, ty.wp]
  simp only [Zb0, Bool.false_eq_true, if_false]
  first | exact ⟨rfl, rfl⟩ | exact ⟨rfl, trivial⟩ | trivial
theorem initX_cl {s : Sd} (nc : NoCl) (hs : PureS s) : Zb1 [.cell s.length, Zek] (s ++ [.ins 7 []]) = .exc 11 Zek (s ++ [.ins 7 []]) := by
  have hS : PureS (s ++ [TO.ins 7 []]) := hs.app rfl
  have z : rz (Zb1 [.cell s.length, Zek] (s ++ [.ins 7 []])) fun k u s1 => k = 11 ∧ u = Zek ∧ s1 = s ++ [.ins 7 []] := by
    unfold Zb1
    refine rz_dfnX hS (rz_seq1 (rz_if ?_))
    have e0 : List.map some [T.cell s.length, Zek] ++ List.replicate (3 - [T.cell s.length, Zek].length) none = [some (.cell s.length), some Zek, none] := rfl
    rw [e0, Zbz, Zbx, Zao, Zag, (Zaj (i := 1) (t := Zek) rfl).wp, Zan, (nc _ hS).wp]
    simp only [Zdm, Zg9, Zby, Zdl, Bool.not_false, if_true]
    refine rz_raise ?_
    rw [Zag, (Zaj (i := 1) (t := Zek) rfl).wp, Zan]
    exact ⟨Zek, rfl, by decide, List.take_length, rfl, rfl, trivial⟩
  obtain ⟨k, u, s1, e, rfl, rfl, rfl⟩ := z
  exact e
noncomputable def tup0 : T := .tup [.str "a", .int 0, .int 1]
noncomputable def its20 : List T := [.non, .int 0, .bl true, .str "", .tup [], .dic [], .tup [.lst [tup0]], tup0, .cell 1, .str "abc"]
theorem its20_of : ∀ (j : Nat) (t : T), its20[j]? = some t → (j = 8 ∧ t = .cell 1) ∨ (j ≠ 8 ∧ t ∈ odd9)
  | 0, _, h => by cases h; exact .inr ⟨by decide, List.mem_of_getElem? (i := 0) rfl⟩
  | 1, _, h => by cases h; exact .inr ⟨by decide, List.mem_of_getElem? (i := 1) rfl⟩
  | 2, _, h => by cases h; exact .inr ⟨by decide, List.mem_of_getElem? (i := 2) rfl⟩
  | 3, _, h => by cases h; exact .inr ⟨by decide, List.mem_of_getElem? (i := 3) rfl⟩
  | 4, _, h => by cases h; exact .inr ⟨by decide, List.mem_of_getElem? (i := 4) rfl⟩
  | 5, _, h => by cases h; exact .inr ⟨by decide, List.mem_of_getElem? (i := 5) rfl⟩
  | 6, _, h => by cases h; exact .inr ⟨by decide, List.mem_of_getElem? (i := 6) rfl⟩
  | 7, _, h => by cases h; exact .inr ⟨by decide, List.mem_of_getElem? (i := 7) rfl⟩
  | 8, _, h => by cases h; exact .inl ⟨rfl, rfl⟩
  | 9, _, h => by cases h; exact .inr ⟨by decide, List.mem_of_getElem? (i := 8) rfl⟩
  | j + 10, _, h => by cases h
noncomputable abbrev blk20 : DSt := Zf3 (Zff (Zej (Zaa (x_c .non) (Zaa (x_c (.int 0)) (Zaa (x_c (.bl true)) (Zaa (x_c (.str "")) (Zaa (Zep Zaf) (Zaa Zi5 (Zaa (Zep (Zaa (Zej (Zaa (Zep (Zaa (x_c (.str "a")) (Zaa (x_c (.int 0)) (Zaa (x_c (.int 1)) Zaf)))) Zaf)) Zaf)) (Zaa (Zep (Zaa (x_c (.str "a")) (Zaa (x_c (.int 0)) (Zaa (x_c (.int 1)) Zaf)))) (Zaa (Zi3 (Zaa (Zep (Zaa (x_c (.str "a")) (Zaa (x_c (.int 0)) (Zaa (x_c (.int 1)) Zaf)))) Zaf)) (Zaa (x_c (.str "abc")) Zaf)))))))))))) (xg_n 3) (Zf6 (Zf0 (Zf2 (Zbs Zdn (Zaa (Zad 3) Zaf)))) (Zde (x_c (.bl false))) Zei)
noncomputable def env20 (a3 : Option T) : Ed := [some (.cell 0), some (.exn 11 Zek), none, a3, none, none, none, none, none, none, none, none, none]
theorem blk20_ok {ns : List Int} {P : DFl → Sd → Prop} (h : P (.nx (env20 none)) [.scr ns]) : wp (Zgz [0, 1] blk20 (env20 none) [.scr ns]) P := by
  refine ws_blkK2 ?_
  rw [Zb3]
  refine wi_seqL (fun t s1 => t = .lst its20 ∧ s1 = [TO.scr ns, .lst [tup0]]) ⟨rfl, rfl⟩ ?_
  rintro _ _ ⟨rfl, rfl⟩
  refine ⟨_, .inl rfl, ?_⟩
  refine Zas (Zim (fun i δ s' => ∃ a3, δ = env20 a3 ∧ s' = [TO.scr ns, .lst (if i ≤ 8 then [tup0] else [tup0, .str "later"])]) its20 0 _ _ ⟨_, rfl, rfl⟩ ?_) ?_
  · rintro j t δ s' hj ⟨a3, rfl, rfl⟩
    refine ⟨env20 (some t), rfl, ?_⟩
    rw [Zdo, Zbz, Zbx, Zao, Zag, (Zaj (δ := env20 (some t)) (i := 3) (t := t) rfl).wp, Zan]
    rcases its20_of j t hj with ⟨rfl, rfl⟩ | ⟨n8, mem⟩
    · refine Zas (Zk7 (s0 := [TO.scr ns]) (ts := [tup0]) (d := 4) scr_pure rfl (by decide) (by decide) (by decide) (by decide) (by decide) (by decide) (by decide)) ?_
      rintro _ _ ⟨rfl, rfl⟩
      simp only [Zdm, Zg9, Zby, Zdl, Bool.not_true, Bool.false_eq_true, if_false, Za3]
      exact ⟨_, rfl, rfl⟩
    · have hp : PureS [TO.scr ns, .lst (if 0 + j ≤ 8 then [tup0] else [tup0, .str "later"])] := by
        refine scr_pure.app (s := [TO.scr ns]) ?_
        split <;> rfl
      rw [(odd9_ok t mem _ hp).wp]
      simp only [Zdm, Zg9, Zby, Zdl, Bool.not_true, Bool.false_eq_true, if_false, Za3]
      refine ⟨_, rfl, ?_⟩
      by_cases h : 0 + j ≤ 8
      · rw [if_pos h, if_pos (show 0 + j + 1 ≤ 8 by omega)]
      · rw [if_neg h, if_neg (show ¬ 0 + j + 1 ≤ 8 by omega)]
  · rintro _ s1 ⟨δ2, rfl, a3, rfl, rfl⟩
    refine ⟨_, env20 none, rfl, ?_, scr_pure, h⟩
    rfl
theorem pre20 {REST : DSt} {ns : List Int} {P : DFl → Sd → Prop} (h : wp (REST (env20 none) [.scr ns]) P) :
    wp ((Zar (Zb4 (x_c .non) (xg_n 1)) (Zar (Zkl [11] 1 2 (Zht 7 Zb1 (Zaa (Zgs 7 Zc8 (Zaa (Zej Zaf) Zaf)) Zaf))) (Zar (Zf6 (Zf0 (Zf2 (x_isX [11] 11 (Zad 1)))) (Zde (x_c (.bl false))) Zei) (Zar (Zgz [0, 1] blk20) REST)))) [some (.cell 0), none, none, none, none, none, none, none, none, none, none, none, none] [.scr ns]) P := by
  have hs : PureS [TO.scr ns] := scr_pure
  have ok0 : CsOk [] := ⟨(fun fs h => nomatch h), Nat.zero_le _⟩
  have cl : ∀ δ : Ed, Is (Zgs 7 Zc8 (Zaa (Zej Zaf) Zaf) δ [.scr ns]) Zek [.scr ns] := fun δ => clm_make (cs := []) hs ok0 (r := Zaa (Zej Zaf) Zaf) (δ := δ) rfl
  have mk : ∀ δ : Ed, Zht 7 Zb1 (Zaa (Zgs 7 Zc8 (Zaa (Zej Zaf) Zaf)) Zaf) δ [.scr ns] = .exc 11 Zek [.scr ns] := fun δ => by
    have ea : (Zaa (Zgs 7 Zc8 (Zaa (Zej Zaf) Zaf)) Zaf) δ [.scr ns] = .ok [Zek] [.scr ns] := by
      have h : wp ((Zaa (Zgs 7 Zc8 (Zaa (Zej Zaf) Zaf)) Zaf) δ [.scr ns]) fun ts s1 => ts = [Zek] ∧ s1 = [TO.scr ns] := by
        rw [Zag, (cl δ).wp, Zan]
        exact ⟨rfl, rfl⟩
      obtain ⟨ts, s1, e, rfl, rfl⟩ := Zlm h
      exact e
    unfold Zht
    rw [ea, Zce, initX_cl no_cl hs]
    show popX [TO.scr ns].length (.exc 11 Zek ([TO.scr ns] ++ [.ins 7 []])) = _
    unfold popX
    dsimp only
    rw [Zfv _ _ PD FU _ (by decide) (by decide), List.take_left, Zfk _ _ hs]
  rw [Zax, Zaq, wx_c]
  simp only [Za0, List.set_cons_succ, List.set_cons_zero]
  have tr : Zkl [11] 1 2 (Zht 7 Zb1 (Zaa (Zgs 7 Zc8 (Zaa (Zej Zaf) Zaf)) Zaf)) [some (.cell 0), some .non, none, none, none, none, none, none, none, none, none, none, none] [.scr ns] = .ok (.nx (env20 none)) [.scr ns] := by
    unfold Zkl
    rw [mk]
    dsimp only
    rw [if_pos (by decide)]
    rfl
  rw [Zax, tr, Zdd]
  simp only [Za0]
  have v1 : Is (Zad 1 (env20 none) [.scr ns]) (.exn 11 Zek) [.scr ns] := Zaj rfl
  rw [Zax, Zdo, Zbz, Zbx, (isX_of v1).wp]
  simp only [Zdm, Zg9, Zby, Zdl, Bool.not_true, Bool.false_eq_true, if_false, Za3, Za0]
  rw [Zax]
  exact blk20_ok h
end Pr
namespace Pr
open PySem L2 Vs
/-! ### names beside a list that holds 0 too -/
theorem in_zstrs {s : Sd} {x : Str} {j : Nat} {is : List Str} {P : T → Sd → Prop} (h : s[j]? = some (.lst (.int 0 :: is.map T.str))) : wp (Zbw (yIn true (.str x) (.cell j) s)) P = P (.bl (!decide (x ∈ is))) s := by
  have ho : ob s (.cell j) = some (.lst (.int 0 :: is.map T.str)) := by
    show (match s[j]? with | some (.lst ts) => some (TU.lst ts) | some (.dic ts) => some (.dic ts) | some (.ins n ts) => some (.ins n ts) | some (.scr ns) => some (.scr ns) | none => none) = _
    rw [h]
  have sq := seq_ob ho
  have e : yIn true (.str x) (.cell j) s = some (.bl (!decide (x ∈ is)), s) := by
    unfold yIn
    have z : inW (.str x) (.int 0 :: is.map W.str) = decide (x ∈ is) := by
      have a := inW_strs x is
      unfold inW at a ⊢
      rw [List.any_cons, a]
      simp [eqW]
    have f : flats (.int 0 :: is.map T.str) = some (.int 0 :: is.map W.str) := by
      show ((fl (.int 0)).bind fun u => (flats (is.map T.str)).map fun us => u :: us) = _
      rw [Zhg]
      rfl
    simp only [sq, fl, f, Option.bind_some, z, if_true]
  rw [e]; rfl
theorem name2z {s : Sd} {k b jz : Nat} {xs : List Str} (h : Cx2 s k b) (hb : b + 100 ≤ 2 ^ 60) (hz : s[jz]? = some (.lst (.int 0 :: xs.map T.str))) (jk : jz ≠ k) (hl : xs.length ≤ 11) : wp (Zgb [.cell k, .cell jz] s) fun r s' => ∃ x : Str, r = .str x ∧ isNm x = true ∧ x ∉ xs ∧ Cx2 s' k (b + 100) ∧ Sm k s s' := by
  unfold Zgb
  refine Zgj ?_
  simp only [Zdd, Zb5, Zcq, wx_c, Zay, Zan, Zag, Zcl, Zb2, Zco, Za7, Zbo, Zat, Zbp, Zdk, Zca, Zbx, Zby, Zc1, Zdz, Zbz, Zcz, Zbr, Zd1, Zcn, Zd6, Zao, Zdu, Zb8, Zdw, Zb6, Zbf, Zdv, Zcx, Za3, Zax, Zaq, Zbm, Zbe, Za6, Zbg, Zdo, Zdt, Zcr, Zcs, Zav, Zd4, Zck, Zb3, Zcb, Za0, Zcc, Zc0, Zcv, Zd8, Zec, Zd9, Zb0, Zdl, Zds, Zdm, Zea, Zd7, Zd0, Zcw, Zbk, Zc2, Zcp, Zc3, Zcy, Zcu, Zd3, Zd5, Zd2, Zeb, Za9, Zci, Zcj, Zct, Zcm, Zbh, Zbl, Zaw, Zau, Zbb, Zbc, Zbd, Zbi, Zbj, Za8, List.map_cons, List.map_nil, List.cons_append, List.nil_append, List.length_cons, List.length_nil, List.replicate_succ, List.replicate_zero, List.set_cons_succ, List.set_cons_zero, Nat.reduceAdd, Nat.reduceSub, Nat.reduceLeDiff, Nat.reduceLT, if_true, if_false, reduceIte, Bool.false_eq_true, Nat.zero_le, true_and, and_true]
  refine Zas (Zil (n := 26) h (by omega) (by decide) (by decide)) ?_
  rintro _ s0 ⟨ra, rfl, ra0, ra1, h0, m0⟩
  refine ix_str (z := abcS) (by rw [Zm1]; decide) ra0 (by rw [Zm1]; exact ra1) fun c0 hc0 => ?_
  have lw0 := Ltr.one (abc_ltr c0 hc0)
  refine ⟨by decide, ?_⟩
  refine Zas (Zil (n := 4) h0 (by omega) (by decide) (by decide)) ?_
  rintro _ s1 ⟨r, rfl, r0, r1, h1, m1'⟩
  have m1 := m0.trans m1'
  refine Zgl (.inl rfl) r0 (by simpa using r1) fun t' ht => ?_
  have key : ∃ n : Nat, t' = .int n ∧ n ≤ 9 := by
    simp only [List.mem_cons, List.not_mem_nil, or_false] at ht
    rcases ht with rfl | rfl | rfl | rfl
    · exact ⟨0, rfl, by decide⟩
    · exact ⟨0, rfl, by decide⟩
    · exact ⟨1, rfl, by decide⟩
    · exact ⟨9, rfl, by decide⟩
  obtain ⟨n, rfl, n2⟩ := key
  simp only [Zdd, Zb5, Zcq, wx_c, Zay, Zan, Zag, Zcl, Zb2, Zco, Za7, Zbo, Zat, Zbp, Zdk, Zca, Zbx, Zby, Zc1, Zdz, Zbz, Zcz, Zbr, Zd1, Zcn, Zd6, Zao, Zdu, Zb8, Zdw, Zb6, Zbf, Zdv, Zcx, Za3, Zax, Zaq, Zbm, Zbe, Za6, Zbg, Zdo, Zdt, Zcr, Zcs, Zav, Zd4, Zck, Zb3, Zcb, Za0, Zcc, Zc0, Zcv, Zd8, Zec, Zd9, Zb0, Zdl, Zds, Zdm, Zea, Zd7, Zd0, Zcw, Zbk, Zc2, Zcp, Zc3, Zcy, Zcu, Zd3, Zd5, Zd2, Zeb, Za9, Zci, Zcj, Zct, Zcm, Zbh, Zbl, Zaw, Zau, Zbb, Zbc, Zbd, Zbi, Zbj, Za8, List.map_cons, List.map_nil, List.cons_append, List.nil_append, List.length_cons, List.length_nil, List.replicate_succ, List.replicate_zero, List.set_cons_succ, List.set_cons_zero, Nat.reduceAdd, Nat.reduceSub, Nat.reduceLeDiff, Nat.reduceLT, if_true, if_false, reduceIte, Bool.false_eq_true, Nat.zero_le, true_and, and_true]
  refine ⟨decide_eq_true (by omega), ?_⟩
  rw [Int.toNat_natCast]
  refine Zas (Zim (fun i δ s' => ∃ (w : Str) (a4 : Option T), δ = [some (.cell k), some (.cell jz), some (.str abcS), some (.str w), a4, none, none, none, none] ∧ Ltr w (1 + i) ∧ Cx2 s' k (b + 12 + 6 * i) ∧ Sm k s1 s') (ranT n) 0 _ s1 ⟨_, none, rfl, lw0, h1, Sm.refl _ _⟩ ?_) ?_
  · rintro j t2 δ s2 hj ⟨w, a4, rfl, lw, h2, m2⟩
    rw [Nat.zero_add] at lw h2 ⊢
    have hj10 : j < n := by
      have := (List.getElem?_eq_some_iff.mp hj).1
      rwa [Zge] at this
    refine ⟨_, rfl, ?_⟩
    simp only [Zdd, Zb5, Zcq, wx_c, Zay, Zan, Zag, Zcl, Zb2, Zco, Za7, Zbo, Zat, Zbp, Zdk, Zca, Zbx, Zby, Zc1, Zdz, Zbz, Zcz, Zbr, Zd1, Zcn, Zd6, Zao, Zdu, Zb8, Zdw, Zb6, Zbf, Zdv, Zcx, Za3, Zax, Zaq, Zbm, Zbe, Za6, Zbg, Zdo, Zdt, Zcr, Zcs, Zav, Zd4, Zck, Zb3, Zcb, Za0, Zcc, Zc0, Zcv, Zd8, Zec, Zd9, Zb0, Zdl, Zds, Zdm, Zea, Zd7, Zd0, Zcw, Zbk, Zc2, Zcp, Zc3, Zcy, Zcu, Zd3, Zd5, Zd2, Zeb, Za9, Zci, Zcj, Zct, Zcm, Zbh, Zbl, Zaw, Zau, Zbb, Zbc, Zbd, Zbi, Zbj, Za8, List.map_cons, List.map_nil, List.cons_append, List.nil_append, List.length_cons, List.length_nil, List.replicate_succ, List.replicate_zero, List.set_cons_succ, List.set_cons_zero, Nat.reduceAdd, Nat.reduceSub, Nat.reduceLeDiff, Nat.reduceLT, if_true, if_false, reduceIte, Bool.false_eq_true, Nat.zero_le, true_and, and_true]
    refine Zas (Zil (n := 26) h2 (by omega) (by decide) (by decide)) ?_
    rintro _ s3 ⟨r, rfl, r0, r1, h3, m3⟩
    refine ix_str (z := abcS) (by rw [Zm1]; decide) r0 (by rw [Zm1]; exact r1) fun c hc => ?_
    rw [wp_addS]
    have lw2 := lw.app (Ltr.one (abc_ltr c hc))
    refine ⟨by rw [lw.1]; show 1 + j + 1 ≤ 100000; omega, ?_⟩
    exact ⟨_, _, rfl, lw2, h3.mono (by omega) (by omega), m2.trans m3⟩
  · rintro _ s2 ⟨δ2, rfl, w, a4, rfl, lw, h2, m2⟩
    rw [Nat.zero_add, Zge] at lw h2
    simp only [Zdd, Zb5, Zcq, wx_c, Zay, Zan, Zag, Zcl, Zb2, Zco, Za7, Zbo, Zat, Zbp, Zdk, Zca, Zbx, Zby, Zc1, Zdz, Zbz, Zcz, Zbr, Zd1, Zcn, Zd6, Zao, Zdu, Zb8, Zdw, Zb6, Zbf, Zdv, Zcx, Za3, Zax, Zaq, Zbm, Zbe, Za6, Zbg, Zdo, Zdt, Zcr, Zcs, Zav, Zd4, Zck, Zb3, Zcb, Za0, Zcc, Zc0, Zcv, Zd8, Zec, Zd9, Zb0, Zdl, Zds, Zdm, Zea, Zd7, Zd0, Zcw, Zbk, Zc2, Zcp, Zc3, Zcy, Zcu, Zd3, Zd5, Zd2, Zeb, Za9, Zci, Zcj, Zct, Zcm, Zbh, Zbl, Zaw, Zau, Zbb, Zbc, Zbd, Zbi, Zbj, Za8, List.map_cons, List.map_nil, List.cons_append, List.nil_append, List.length_cons, List.length_nil, List.replicate_succ, List.replicate_zero, List.set_cons_succ, List.set_cons_zero, Nat.reduceAdd, Nat.reduceSub, Nat.reduceLeDiff, Nat.reduceLT, if_true, if_false, reduceIte, Bool.false_eq_true, Nat.zero_le, true_and, and_true]
    refine ⟨by decide, ?_⟩
    refine Zas (Zil (n := 12) h2 (by omega) (by decide) (by decide)) ?_
    rintro _ s3 ⟨r2, rfl, r3, r4, h3, m3⟩
    refine Zgl (.inl rfl) r3 (by simpa using r4) fun f1 hf1 => ?_
    refine ⟨by decide, ?_⟩
    refine Zas (Zil (n := 5) h3 (by omega) (by decide) (by decide)) ?_
    rintro _ s5 ⟨r8, rfl, r9, r10, h5, m5⟩
    refine Zgl (.inl rfl) r9 (by simpa using r10) fun t3 ht3 => ?_
    have key : ∃ x : Str, t3 = .str x ∧ isNm x = true := by
      have ff : ∃ x : Str, f1 = .str x ∧ isNm x = true := by
        have hf : f1 ∈ formW2.map T.str := hf1
        obtain ⟨x, hx, rfl⟩ := List.mem_map.mp hf
        exact ⟨x, rfl, formW2_nm x hx⟩
      simp only [List.mem_cons, List.not_mem_nil, or_false] at ht3
      rcases ht3 with rfl | rfl | rfl | rfl | rfl
      · exact ⟨w, rfl, lw.nm (by omega) (by omega)⟩
      · exact ⟨w, rfl, lw.nm (by omega) (by omega)⟩
      · exact ⟨w, rfl, lw.nm (by omega) (by omega)⟩
      · exact ⟨w, rfl, lw.nm (by omega) (by omega)⟩
      · exact ff
    obtain ⟨x, rfl, hx⟩ := key
    have lx := Ltr.of hx
    have xl := Zg4 hx
    have m := ((m1.trans m2).trans m3).trans m5
    refine ⟨by decide, ?_⟩
    rw [(Zk9 firsts2 (fun c => .str ⟨#[c]⟩) (fun c => .str ((⟨#[c]⟩ : Str) ++ cutS x none (some 9))) h5.pure (is_strE (z := tailS) (by
      show wp _ _
      simp only [Zdd, Zb5, Zcq, wx_c, Zay, Zan, Zag, Zcl, Zb2, Zco, Za7, Zbo, Zat, Zbp, Zdk, Zca, Zbx, Zby, Zc1, Zdz, Zbz, Zcz, Zbr, Zd1, Zcn, Zd6, Zao, Zdu, Zb8, Zdw, Zb6, Zbf, Zdv, Zcx, Za3, Zax, Zaq, Zbm, Zbe, Za6, Zbg, Zdo, Zdt, Zcr, Zcs, Zav, Zd4, Zck, Zb3, Zcb, Za0, Zcc, Zc0, Zcv, Zd8, Zec, Zd9, Zb0, Zdl, Zds, Zdm, Zea, Zd7, Zd0, Zcw, Zbk, Zc2, Zcp, Zc3, Zcy, Zcu, Zd3, Zd5, Zd2, Zeb, Za9, Zci, Zcj, Zct, Zcm, Zbh, Zbl, Zaw, Zau, Zbb, Zbc, Zbd, Zbi, Zbj, Za8, List.map_cons, List.map_nil, List.cons_append, List.nil_append, List.length_cons, List.length_nil, List.replicate_succ, List.replicate_zero, List.set_cons_succ, List.set_cons_zero, Nat.reduceAdd, Nat.reduceSub, Nat.reduceLeDiff, Nat.reduceLT, if_true, if_false, reduceIte, Bool.false_eq_true, Nat.zero_le, true_and, and_true]
      rw [sl_str (by rw [Zm1]; decide)]
      exact ⟨rfl, rfl⟩)) (by rw [Zhr]; decide) fun c acc hc _ hp => ⟨_, rfl, rfl, ?_⟩).wp]
    · rw [show (firsts2.map fun c => T.str ((⟨#[c]⟩ : Str) ++ cutS x none (some 9))) = (firsts2.map fun c => (⟨#[c]⟩ : Str) ++ cutS x none (some 9)).map T.str from by rw [List.map_map]; rfl]
      rw [Zhc]
      refine ⟨by rw [List.length_map, List.length_map, Zhr]; show 1 + 13 ≤ 100000; decide, ?_⟩
      rw [show [T.str x] ++ (firsts2.map fun c => (⟨#[c]⟩ : Str) ++ cutS x none (some 9)).map T.str = ([x] ++ firsts2.map fun c => (⟨#[c]⟩ : Str) ++ cutS x none (some 9)).map T.str from by rw [List.map_append]; rfl]
      have ff := first_free2 (w := x) hl
      have cm : ∀ y ∈ [x] ++ firsts2.map (fun c => (⟨#[c]⟩ : Str) ++ cutS x none (some 9)), isNm y = true := fun y hy => by
        rcases List.mem_append.mp hy with q | q
        · rw [List.mem_singleton.mp q]; exact hx
        · obtain ⟨c, hc, rfl⟩ := List.mem_map.mp q
          have := (Ltr.one (firsts2_ltr c hc)).app (lx.cut 9)
          exact this.nm (by omega) (by omega)
      have cl : ([x] ++ firsts2.map fun c => (⟨#[c]⟩ : Str) ++ cutS x none (some 9)).length = 14 := by
        rw [List.length_append, List.length_map, Zhr]; rfl
      generalize [x] ++ firsts2.map (fun c => (⟨#[c]⟩ : Str) ++ cutS x none (some 9)) = cs at ff cm cl
      have hz5 := (m.2 jz jk).trans hz
      rw [(lcf_is cs T.str (fun y => !decide (y ∈ xs)) h5.pure (Zf8 (Zaj rfl)) (by omega) (fun _ => rfl) fun y acc hy _ hp => ⟨_, rfl, ?_, ?_⟩).wp]
      · cases e : cs.filter (fun y => !decide (y ∈ xs)) with
        | nil => exact absurd e ff
        | cons y ys =>
          have hy : y ∈ cs.filter (fun y => !decide (y ∈ xs)) := by rw [e]; exact List.mem_cons_self
          obtain ⟨y1, y2⟩ := List.mem_filter.mp hy
          simp only [List.map_cons, Za8, m.take]
          exact ⟨rfl, h5.pure, y, rfl, cm y y1, by simpa using y2, h5.mono (by omega) hb, m⟩
      · show wp _ _
        simp only [dwip, Zdd, Zb5, Zcq, wx_c, Zay, Zan, Zag, Zcl, Zb2, Zco, Za7, Zbo, Zat, Zbp, Zdk, Zca, Zbx, Zby, Zc1, Zdz, Zbz, Zcz, Zbr, Zd1, Zcn, Zd6, Zao, Zdu, Zb8, Zdw, Zb6, Zbf, Zdv, Zcx, Za3, Zax, Zaq, Zbm, Zbe, Za6, Zbg, Zdo, Zdt, Zcr, Zcs, Zav, Zd4, Zck, Zb3, Zcb, Za0, Zcc, Zc0, Zcv, Zd8, Zec, Zd9, Zb0, Zdl, Zds, Zdm, Zea, Zd7, Zd0, Zcw, Zbk, Zc2, Zcp, Zc3, Zcy, Zcu, Zd3, Zd5, Zd2, Zeb, Za9, Zci, Zcj, Zct, Zcm, Zbh, Zbl, Zaw, Zau, Zbb, Zbc, Zbd, Zbi, Zbj, Za8, List.map_cons, List.map_nil, List.cons_append, List.nil_append, List.length_cons, List.length_nil, List.replicate_succ, List.replicate_zero, List.set_cons_succ, List.set_cons_zero, Nat.reduceAdd, Nat.reduceSub, Nat.reduceLeDiff, Nat.reduceLT, if_true, if_false, reduceIte, Bool.false_eq_true, Nat.zero_le, true_and, and_true]
        rw [in_zstrs (is := xs) ((List.getElem?_append_left (List.getElem?_eq_some_iff.mp hz5).1).trans hz5)]
        all_goals first | rfl | exact ⟨rfl, rfl⟩ | exact ⟨by decide, rfl⟩ | exact ⟨by decide, rfl, rfl⟩ | decide | trivial
      · show wp _ _
        simp only [dwip, Zdd, Zb5, Zcq, wx_c, Zay, Zan, Zag, Zcl, Zb2, Zco, Za7, Zbo, Zat, Zbp, Zdk, Zca, Zbx, Zby, Zc1, Zdz, Zbz, Zcz, Zbr, Zd1, Zcn, Zd6, Zao, Zdu, Zb8, Zdw, Zb6, Zbf, Zdv, Zcx, Za3, Zax, Zaq, Zbm, Zbe, Za6, Zbg, Zdo, Zdt, Zcr, Zcs, Zav, Zd4, Zck, Zb3, Zcb, Za0, Zcc, Zc0, Zcv, Zd8, Zec, Zd9, Zb0, Zdl, Zds, Zdm, Zea, Zd7, Zd0, Zcw, Zbk, Zc2, Zcp, Zc3, Zcy, Zcu, Zd3, Zd5, Zd2, Zeb, Za9, Zci, Zcj, Zct, Zcm, Zbh, Zbl, Zaw, Zau, Zbb, Zbc, Zbd, Zbi, Zbj, Za8, List.map_cons, List.map_nil, List.cons_append, List.nil_append, List.length_cons, List.length_nil, List.replicate_succ, List.replicate_zero, List.set_cons_succ, List.set_cons_zero, Nat.reduceAdd, Nat.reduceSub, Nat.reduceLeDiff, Nat.reduceLT, if_true, if_false, reduceIte, Bool.false_eq_true, Nat.zero_le, true_and, and_true]
        all_goals first | rfl | exact ⟨rfl, rfl⟩ | exact ⟨by decide, rfl⟩ | exact ⟨by decide, rfl, rfl⟩ | decide | trivial
    · show wp _ _
      simp only [dwip, Zdd, Zb5, Zcq, wx_c, Zay, Zan, Zag, Zcl, Zb2, Zco, Za7, Zbo, Zat, Zbp, Zdk, Zca, Zbx, Zby, Zc1, Zdz, Zbz, Zcz, Zbr, Zd1, Zcn, Zd6, Zao, Zdu, Zb8, Zdw, Zb6, Zbf, Zdv, Zcx, Za3, Zax, Zaq, Zbm, Zbe, Za6, Zbg, Zdo, Zdt, Zcr, Zcs, Zav, Zd4, Zck, Zb3, Zcb, Za0, Zcc, Zc0, Zcv, Zd8, Zec, Zd9, Zb0, Zdl, Zds, Zdm, Zea, Zd7, Zd0, Zcw, Zbk, Zc2, Zcp, Zc3, Zcy, Zcu, Zd3, Zd5, Zd2, Zeb, Za9, Zci, Zcj, Zct, Zcm, Zbh, Zbl, Zaw, Zau, Zbb, Zbc, Zbd, Zbi, Zbj, Za8, List.map_cons, List.map_nil, List.cons_append, List.nil_append, List.length_cons, List.length_nil, List.replicate_succ, List.replicate_zero, List.set_cons_succ, List.set_cons_zero, Nat.reduceAdd, Nat.reduceSub, Nat.reduceLeDiff, Nat.reduceLT, if_true, if_false, reduceIte, Bool.false_eq_true, Nat.zero_le, true_and, and_true]
      rw [sl_str (by show x.length ≤ 100000; omega), wp_addS]
      have lc := (lx.cut 9).1
      refine ⟨?_, rfl, rfl⟩
      have lc : (cutS x none (some 9)).length = min 9 x.length := lc
      rw [lc]
      show 1 + _ ≤ 100000
      omega
end Pr
namespace Pr
open PySem L2 Vs
/-! ### the block of k20's four names -/
theorem zstrs_pureO (xs : List Str) : Zhj (.lst (.int 0 :: xs.map T.str)) = true := by
  have a := strs_pureO xs
  have : Zhj (.lst (.int 0 :: xs.map T.str)) = (pure? PD (.int 0) && Zhj (.lst (xs.map T.str))) := rfl
  rw [this, a]
  rfl
noncomputable abbrev nblk20 : DSt := Zar (Zb4 (Zi3 (Zaa (x_c (.int 0)) Zaf)) (xg_n 6)) (Zf3 (Zgu (x_c (.int 4))) (xg_n 7) (Zm3 (x_bm isLT Zgg (Zad 6) (Zaa (Zbs Zgb (Zaa (Zad 5) (Zaa (Zad 6) Zaf))) Zaf))))
theorem names20 {s : Sd} {k b j : Nat} (C : Cx2 s k b) (hb : b + 400 ≤ 2 ^ 60) (h0 : 0 < s.length) (f : s.all Zm0 = true) {a2 a3 a6 a7 a8 a9 a10 a11 a12 : Option T} {P : DFl → Sd → Prop}
    (h : ∀ (xs : List Str) (s2 : Sd), xs.length = 4 → xs.Nodup → Zh1 xs → Cx2 s2 k (b + 400) → Sm k s s2 → s2.all Zm0 = true → P (.nx [some (.cell 0), some (.exn 11 Zek), none, none, some (.int (j : Int)), some (.cell k), some (.lst (.int 0 :: xs.map T.str)), none, none, none, none, none, none]) s2) :
    wp (Zgz [0, 1, 4, 5, 6] nblk20 [some (.cell 0), some (.exn 11 Zek), a2, a3, some (.int (j : Int)), some (.cell k), a6, a7, a8, a9, a10, a11, a12] s) P := by
  have kl := C.lt
  refine ws_blkK2 ?_
  rw [Zax, Zaq, Za7, Zag, wx_c, Zan]
  refine ⟨by show 1 ≤ 100000; decide, ?_⟩
  simp only [Za0, List.set_cons_succ, List.set_cons_zero]
  have S0 : Sn k s (s ++ [.lst [.int 0]]) (.lst (.int 0 :: ([] : List Str).map T.str)) := ⟨by simp, fun j _ hj => List.getElem?_append_left hj, Zfz⟩
  rw [Zb3, Zcb, wx_c]
  simp only [Zds]
  refine ⟨by decide, ?_⟩
  refine Zas (Zim (fun i δ s' => ∃ (xs : List Str) (b7 : Option T), δ = [some (.cell 0), some (.exn 11 Zek), a2, a3, some (.int (j : Int)), some (.cell k), some (.cell s.length), b7, a8, a9, a10, a11, a12] ∧ xs.length = i ∧ xs.Nodup ∧ Zh1 xs ∧ Sn k s s' (.lst (.int 0 :: xs.map T.str)) ∧ Cx2 s' k (b + 100 * i)) (ranT 4) 0 _ _ ⟨[], a7, rfl, rfl, List.nodup_nil, (fun x hx => nomatch hx), S0, C.app rfl⟩ ?_) ?_
  · rintro i t δ s3 hi ⟨xs, b7, rfl, xl, xd, xn, S, c⟩
    have il : i < 4 := by
      have := (List.getElem?_eq_some_iff.mp hi).1
      rwa [Zge] at this
    rw [Nat.zero_add] at xl c ⊢
    refine ⟨_, rfl, ?_⟩
    simp only [ditm_f, List.set_cons_succ, List.set_cons_zero]
    rw [Zdt, Zdv, (Zaj (i := 6) (t := .cell s.length) rfl).wp]
    refine ⟨Zl4 S.hi, ?_⟩
    rw [Zag, Zao, Zag, (Zaj (i := 5) (t := .cell k) rfl).wp, Zag, (Zaj (i := 6) (t := .cell s.length) rfl).wp, Zan]
    refine Zas (name2z c (by omega) S.hi (by omega) (by omega)) ?_
    rintro _ s4 ⟨x, rfl, hx, nx, c4, m4⟩
    have S4 := S.step m4 kl
    rw [Zan, Zl9 S4.hi (by rw [List.length_cons, List.length_map]; show _ < 100000; omega), show (T.int 0 :: xs.map T.str) ++ [T.str x] = T.int 0 :: (xs ++ [x]).map T.str from by simp]
    refine ⟨xs ++ [x], _, rfl, by simp [xl], List.nodup_append.mpr ⟨xd, by simp, fun a ha b hb => by rw [List.mem_singleton.mp hb]; exact fun e => nx (e ▸ ha)⟩, fun y hy => ?_, S4.put _, (c4.setO (by omega) (zstrs_pureO _)).mono (by omega) (by omega)⟩
    rcases List.mem_append.mp hy with q | q
    · exact xn y q
    · rw [List.mem_singleton.mp q]; exact hx
  · rintro _ s3 ⟨δ2, rfl, xs, b7, rfl, xl, xd, xn, S, c⟩
    rw [Nat.zero_add, Zge] at xl c
    have c3 := c.take (n := s.length) kl
    have c4 : Cx2 (s3.take s.length) k (b + 400) := c3
    refine ⟨_, [some (.cell 0), some (.exn 11 Zek), none, none, some (.int (j : Int)), some (.cell k), some (.lst (.int 0 :: xs.map T.str)), none, none, none, none, none, none], rfl, ?_, c3.pure, h xs _ xl xd xn c4 S.take (flat_sm f S.take c4)⟩
    have fe : fr s.length s3 FU (.exn 11 Zek) = some (.exn 11 Zek) := by
      show (fr s.length s3 (FU - 1) Zek).map (T.exn 11) = _
      rw [Zfv _ _ PD _ _ (by decide) (by decide)]
      rfl
    refine Zfe (by decide) (fr_low2 h0) (Zfe (by decide) fe ?_)
    have d2 : ∀ (x : Option T) (i : Nat) (r us : Ed), i ∉ [0, 1, 4, 5, 6] → frK s.length s3 [0, 1, 4, 5, 6] (i + 1) r = some us → frK s.length s3 [0, 1, 4, 5, 6] i (x :: r) = some (none :: us) := fun x i r us hi e => by
      unfold frK
      rw [if_neg hi, e]
      rfl
    refine d2 _ _ _ _ (by decide) (d2 _ _ _ _ (by decide) ?_)
    refine Zfe (by decide) rfl (Zfe (by decide) (fr_low2 kl) (Zfe (by decide) (fr_own (acc := .int 0 :: xs.map T.str) S.hi fun t ht => ?_) ?_))
    · rcases List.mem_cons.mp ht with rfl | q
      · rfl
      · obtain ⟨x, _, rfl⟩ := List.mem_map.mp q
        rfl
    · rw [Zng fun j hj => by simp; omega]
      rfl
end Pr
namespace Pr
open PySem L2 Vs
/-! ### facts drawn, one list of them -/
noncomputable abbrev Zhb (xs : List Str) : T := .lst (.int 0 :: xs.map T.str)
theorem ends_of {xs : List Str} (an : Zh1 xs) {t : T} (h : t ∈ (T.int 0 :: xs.map T.str)) : ∃ e : Option Str, t = enT e ∧ ∀ x, e = some x → isNm x = true := by
  rcases List.mem_cons.mp h with rfl | q
  · exact ⟨none, rfl, fun _ h => nomatch h⟩
  · obtain ⟨x, hx, rfl⟩ := List.mem_map.mp q
    exact ⟨some x, rfl, fun y e => by cases e; exact an x hx⟩
theorem len_ends {xs : List Str} {s : Sd} {P : T → Sd → Prop} (h4 : xs.length = 4) : wp (Zbw (yLen [Zhb xs] s)) P = P (.int 5) s := by
  have e : yLen [Zhb xs] s = some (.int ((T.int 0 :: xs.map T.str).length : Nat), s) := rfl
  rw [e, List.length_cons, List.length_map, h4]
  rfl
theorem facts_pureO (ts : List T) (h : ∀ t ∈ ts, ∃ f : Fc, t = f.t) : Zhj (.lst ts) = true := by
  show ts.all (pure? PD) = true
  refine List.all_eq_true.mpr fun t ht => ?_
  obtain ⟨f, rfl⟩ := h t ht
  exact Zc9 2 (by decide) f.pure
theorem turn20 {s s3 : Sd} {k b i : Nat} {xs : List Str} {fs : List Fc} (an : Zh1 xs) (h4 : xs.length = 4) (hk : k < s.length) (S : Sn k s s3 (.lst (fs.map Fc.t))) (C : Cx2 s3 k b) (hb : b + 24 ≤ 2 ^ 60) (h : ∀ f ∈ fs, Fc20 f) (hl : fs.length ≤ 4) {a2 a3 a5 a6 a7 : Option T} :
    wp ((Zar (Zmz 6 7 (Zaa (Zap yIx (Zad 1) (Zbs Zba (Zaa (Zad 0) (Zaa (x_cb yLen (Zaa (Zad 1) Zaf)) Zaf)))) (Zaa (Zap yIx (Zad 1) (Zbs Zba (Zaa (Zad 0) (Zaa (x_cb yLen (Zaa (Zad 1) Zaf)) Zaf)))) Zaf))) (Zm3 (x_bm isLT Zgg (Zad 4) (Zaa (Zep (Zaa (Zad 6) (Zaa (Zad 7) (Zaa (Zbs Ze0 (Zaa (Zad 0) Zaf)) Zaf)))) Zaf)))) [some (.cell k), some (Zhb xs), a2, a3, some (.cell s.length), a5, a6, a7] s3) fun f s' => ∃ (g : Fc) (b6 b7 : Option T), f = .nx [some (.cell k), some (Zhb xs), a2, a3, some (.cell s.length), a5, b6, b7] ∧ Fc20 g ∧ Sn k s s' (.lst ((fs ++ [g]).map Fc.t)) ∧ Cx2 s' k (b + 24) := by
  rw [Zax, Zck, Zag, Zay, (Zaj (i := 1) (t := Zhb xs) rfl).wp, Zao, Zag, (Zaj (i := 0) (t := .cell k) rfl).wp, Zag, Zdk, Zag, (Zaj (i := 1) (t := Zhb xs) rfl).wp, Zan, len_ends h4, Zan]
  refine Zas (Zil (n := 5) C (by omega) (by decide) (by decide)) ?_
  rintro _ s4 ⟨r, rfl, r0, r1, c4, m4⟩
  refine Zgl (ts := T.int 0 :: xs.map T.str) (.inl rfl) r0 (by rw [List.length_cons, List.length_map, h4]; exact r1) fun t1 ht1 => ?_
  obtain ⟨e1, rfl, n1⟩ := ends_of an ht1
  rw [Zag, Zay, (Zaj (i := 1) (t := Zhb xs) rfl).wp, Zao, Zag, (Zaj (i := 0) (t := .cell k) rfl).wp, Zag, Zdk, Zag, (Zaj (i := 1) (t := Zhb xs) rfl).wp, Zan, len_ends h4, Zan]
  refine Zas (Zil (n := 5) c4 (by omega) (by decide) (by decide)) ?_
  rintro _ s5 ⟨q, rfl, q0, q1, c5, m5⟩
  refine Zgl (ts := T.int 0 :: xs.map T.str) (.inl rfl) q0 (by rw [List.length_cons, List.length_map, h4]; exact q1) fun t2 ht2 => ?_
  obtain ⟨e2, rfl, n2⟩ := ends_of an ht2
  rw [Zan]
  simp only [Zd0, Za0, List.set_cons_succ, List.set_cons_zero]
  have S5 := (S.step m4 hk).step m5 hk
  rw [Zdt, Zdv, (Zaj (i := 4) (t := .cell s.length) rfl).wp]
  refine ⟨Zl4 S5.hi, ?_⟩
  rw [Zag, Zcl, Zag, (Zaj (i := 6) (t := enT e1) rfl).wp, Zag, (Zaj (i := 7) (t := enT e2) rfl).wp, Zag, Zao, Zag, (Zaj (i := 0) (t := .cell k) rfl).wp, Zan]
  refine Zas (number2b c5 (by omega)) ?_
  rintro _ s6 ⟨v, rfl, bv, c6, m6⟩
  have S6 := S5.step m6 hk
  rw [Zan]
  refine ⟨by show 3 ≤ 100000; decide, ?_⟩
  rw [Zan, Zl9 S6.hi (by rw [List.length_map]; show _ < 100000; omega)]
  have fg : Fc20 ⟨e1, e2, v⟩ := ⟨⟨n1, n2⟩, by obtain ⟨u1, u2⟩ := bv; show v.natAbs < 10 ^ 40; omega⟩
  refine ⟨⟨e1, e2, v⟩, _, _, rfl, fg, ?_, ?_⟩
  · have := S6.put (.lst (fs.map Fc.t ++ [.tup [enT e1, enT e2, .int v]]))
    rw [List.map_append]
    exact this
  · have pl : Zhj (.lst (fs.map Fc.t ++ [.tup [enT e1, enT e2, .int v]])) = true := facts_pureO _ fun t ht => by
      rcases List.mem_append.mp ht with p | p
      · obtain ⟨f, _, rfl⟩ := List.mem_map.mp p
        exact ⟨f, rfl⟩
      · rw [List.mem_singleton.mp p]
        exact ⟨⟨e1, e2, v⟩, rfl⟩
    exact (c6.setO (by omega) pl).mono (by omega) (by omega)
end Pr
namespace Pr
open PySem L2 Vs
/-! ### one list of facts, whole behind its block -/
theorem ends_pure (xs : List Str) : pure? PD (Zhb xs) = true := List.all_eq_true.mpr fun t ht => by
  rcases List.mem_cons.mp ht with rfl | q
  · rfl
  · obtain ⟨x, _, rfl⟩ := List.mem_map.mp q
    rfl
theorem inner20 {s : Sd} {k b o : Nat} {i : Int} {xs : List Str} (an : Zh1 xs) (h4 : xs.length = 4) (C : Cx2 s k b) (hb : b + 200 ≤ 2 ^ 60) (ho : o < s.length) {a4 a5 a6 a7 : Option T} {P : DFl → Sd → Prop}
    (h : ∀ (fs : List Fc) (s2 : Sd), fs ≠ [] → fs.length ≤ 4 → (∀ f ∈ fs, Fc20 f) → Cx2 s2 k (b + 200) → Sm k s s2 → P (.nx [some (.cell k), some (Zhb xs), some (.cell o), some (.int i), some (fsT fs), none, none, none]) s2) :
    wp (Zgz [0, 1, 2, 3, 4] (Zar (Zb4 (Zi3 Zaf) (xg_n 4)) (Zf3 (Zgu (Zap yAdd (x_c (.int 1)) (Zbs Zba (Zaa (Zad 0) (Zaa (x_c (.int 4)) Zaf))))) (xg_n 5) (Zar (Zmz 6 7 (Zaa (Zap yIx (Zad 1) (Zbs Zba (Zaa (Zad 0) (Zaa (x_cb yLen (Zaa (Zad 1) Zaf)) Zaf)))) (Zaa (Zap yIx (Zad 1) (Zbs Zba (Zaa (Zad 0) (Zaa (x_cb yLen (Zaa (Zad 1) Zaf)) Zaf)))) Zaf))) (Zm3 (x_bm isLT Zgg (Zad 4) (Zaa (Zep (Zaa (Zad 6) (Zaa (Zad 7) (Zaa (Zbs Ze0 (Zaa (Zad 0) Zaf)) Zaf)))) Zaf)))))) [some (.cell k), some (Zhb xs), some (.cell o), some (.int i), a4, a5, a6, a7] s) P := by
  have kl := C.lt
  refine ws_blkK2 ?_
  rw [Zax, Zaq, Za7, Zan]
  refine ⟨by show 0 ≤ 100000; decide, ?_⟩
  simp only [Za0, List.set_cons_succ, List.set_cons_zero]
  have S0 : Sn k s (s ++ [.lst []]) (.lst (([] : List Fc).map Fc.t)) := ⟨by simp, fun j _ hj => List.getElem?_append_left hj, Zfz⟩
  have C0 : Cx2 (s ++ [.lst []]) k b := C.app rfl
  rw [Zb3, Zcb, Zay, wx_c, Zao, Zag, (Zaj (i := 0) (t := .cell k) rfl).wp, Zag, wx_c, Zan]
  refine Zas (Zil (n := 4) C0 (by omega) (by decide) (by decide)) ?_
  rintro _ s3 ⟨q, rfl, q0, q1, c3, m3⟩
  obtain ⟨q, rfl⟩ := Int.eq_ofNat_of_zero_le q0
  rw [Za9]
  simp only [Zds]
  refine ⟨by first | omega | exact decide_eq_true (by omega), ?_⟩
  rw [show (1 + (q : Int)).toNat = q + 1 from by omega]
  have S3 := S0.step m3 kl
  refine Zas (Zim (fun j δ s' => ∃ (fs : List Fc) (b5 b6 b7 : Option T), δ = [some (.cell k), some (Zhb xs), some (.cell o), some (.int i), some (.cell s.length), b5, b6, b7] ∧ fs.length = j ∧ (∀ f ∈ fs, Fc20 f) ∧ Sn k s s' (.lst (fs.map Fc.t)) ∧ Cx2 s' k (b + 6 + 24 * j)) (ranT (q + 1)) 0 _ _ ⟨[], a5, a6, a7, rfl, rfl, (fun f hf => nomatch hf), S3, c3⟩ ?_) ?_
  · rintro j t δ s4 hj ⟨fs, b5, b6, b7, rfl, fl, fc, S, c⟩
    have jl : j < q + 1 := by
      have := (List.getElem?_eq_some_iff.mp hj).1
      rwa [Zge] at this
    rw [Nat.zero_add] at fl c ⊢
    refine ⟨_, rfl, ?_⟩
    simp only [ditm_f, List.set_cons_succ, List.set_cons_zero]
    refine Zas (turn20 (i := 0) an h4 kl S c (by omega) fc (by omega)) ?_
    rintro _ s5 ⟨g, d6, d7, rfl, hg, S5, c5⟩
    refine ⟨fs ++ [g], _, _, _, rfl, by simp [fl], fun f hf => ?_, S5, c5.mono (by omega) (by omega)⟩
    rcases List.mem_append.mp hf with p | p
    · exact fc f p
    · rw [List.mem_singleton.mp p]; exact hg
  · rintro _ s4 ⟨δ2, rfl, fs, b5, b6, b7, rfl, fl, fc, S, c⟩
    rw [Nat.zero_add, Zge] at fl c
    have c4 := (c.take (n := s.length) kl).mono (c := b + 200) (by omega) (by omega)
    refine ⟨_, [some (.cell k), some (Zhb xs), some (.cell o), some (.int i), some (fsT fs), none, none, none], rfl, ?_, c4.pure, h fs _ (by rintro rfl; simp at fl) (by omega) fc c4 S.take⟩
    refine Zfe (by decide) (fr_low2 kl) (Zfe (by decide) (Zfv _ _ PD FU _ (by decide) (ends_pure xs)) (Zfe (by decide) (fr_low2 ho) (Zfe (by decide) rfl (Zfe (by decide) (fr_own (acc := fs.map Fc.t) S.hi fun t ht => ?_) ?_))))
    · obtain ⟨f, _, rfl⟩ := List.mem_map.mp ht
      exact Zc9 2 (by decide) f.pure
    · rw [Zng fun j hj => by simp; omega]
      rfl
end Pr
namespace Pr
open PySem L2 Vs
/-! ### the lists of facts, drawn whole -/
theorem ran_get {n j : Nat} {t : T} (h : (ranT n)[j]? = some t) : ∃ i : Int, t = .int i := by
  unfold ranT at h
  rw [List.getElem?_map] at h
  obtain ⟨i, _, rfl⟩ := Option.map_eq_some_iff.mp h
  exact ⟨_, rfl⟩
theorem groups_pureO (cs : List (List Fc)) : Zhj (.lst (cs.map fsT)) = true := by
  show (cs.map fsT).all (pure? PD) = true
  refine List.all_eq_true.mpr fun t ht => ?_
  obtain ⟨fs, _, rfl⟩ := List.mem_map.mp ht
  exact Zc9 3 (by decide) (Zhq fs)
theorem cs20_nil : Cs20 [] := ⟨by decide, (fun _ h => nomatch h), (fun _ h => nomatch h), fun _ h => nomatch h⟩
theorem facts20 {s : Sd} {k b : Nat} {xs : List Str} (an : Zh1 xs) (h4 : xs.length = 4) (C : Cx2 s k b) (hb : b + 500 ≤ 2 ^ 60) : wp (Zfy [.cell k, Zhb xs] s) fun r s' => ∃ cs : List (List Fc), r = .lst (cs.map fsT) ∧ cs.length ≤ 2 ∧ Cs20 cs ∧ Cx2 s' k (b + 500) ∧ Sm k s s' := by
  have kl := C.lt
  unfold Zfy
  refine wp_dfnG ?_
  have e0 : List.map some [T.cell k, Zhb xs] ++ List.replicate (8 - [T.cell k, Zhb xs].length) none = [some (.cell k), some (Zhb xs), none, none, none, none, none, none] := rfl
  rw [e0, Zax, Zaq, Za7, Zan]
  refine ⟨by show 0 ≤ 100000; decide, ?_⟩
  simp only [Za0, List.set_cons_succ, List.set_cons_zero]
  have S0 : Sn k s (s ++ [.lst []]) (.lst (([] : List (List Fc)).map fsT)) := ⟨by simp, fun j _ hj => List.getElem?_append_left hj, Zfz⟩
  have C0 : Cx2 (s ++ [.lst []]) k b := C.app rfl
  rw [Zax, Zb3, Zcb, Zao, Zag, (Zaj (i := 0) (t := .cell k) rfl).wp, Zag, wx_c, Zan]
  refine Zas (Zil (n := 3) C0 (by omega) (by decide) (by decide)) ?_
  rintro _ s3 ⟨q, rfl, q0, q1, c3, m3⟩
  obtain ⟨q, rfl⟩ := Int.eq_ofNat_of_zero_le q0
  simp only [Zds]
  refine ⟨by first | omega | exact decide_eq_true (by omega), ?_⟩
  rw [Int.toNat_natCast]
  have S3 := S0.step m3 kl
  refine Zas (Zim (fun j δ s' => ∃ (cs : List (List Fc)) (b3 b4 b5 b6 b7 : Option T), δ = [some (.cell k), some (Zhb xs), some (.cell s.length), b3, b4, b5, b6, b7] ∧ cs.length = j ∧ Cs20 cs ∧ Sn k s s' (.lst (cs.map fsT)) ∧ Cx2 s' k (b + 6 + 200 * j)) (ranT q) 0 _ _ ⟨[], none, none, none, none, none, rfl, rfl, cs20_nil, S3, c3⟩ ?_) ?_
  · rintro j t δ s4 hj ⟨cs, b3, b4, b5, b6, b7, rfl, cl, ok, S, c⟩
    obtain ⟨i, rfl⟩ := ran_get hj
    have jl : j < q := by
      have := (List.getElem?_eq_some_iff.mp hj).1
      rwa [Zge] at this
    rw [Nat.zero_add] at cl c ⊢
    refine ⟨_, rfl, ?_⟩
    simp only [ditm_f, List.set_cons_succ, List.set_cons_zero]
    rw [Zax]
    refine inner20 an h4 c (by omega) (by rw [S.len]; omega) ?_
    intro fs s5 ne fl fc c5 m5
    have S5 := S.step m5 kl
    simp only [Za0]
    rw [Zdt, Zdv, (Zaj (i := 2) (t := .cell s.length) rfl).wp]
    refine ⟨Zl4 S5.hi, ?_⟩
    rw [Zag, (Zaj (i := 4) (t := fsT fs) rfl).wp, Zan, Zl9 S5.hi (by rw [List.length_map]; show _ < 100000; omega)]
    have e1 : cs.map fsT ++ [fsT fs] = (cs ++ [fs]).map fsT := by rw [List.map_append]; rfl
    rw [e1]
    refine ⟨cs ++ [fs], _, _, _, _, _, rfl, by simp [cl], ⟨by rw [List.length_append, cl]; show j + 1 ≤ 3; omega, fun gs hg => ?_, fun gs hg => ?_, fun gs hg => ?_⟩, S5.put _, (c5.setO (by omega) (groups_pureO _)).mono (by omega) (by omega)⟩
    · rcases List.mem_append.mp hg with p | p
      · exact ok.ne gs p
      · rw [List.mem_singleton.mp p]; exact ne
    · rcases List.mem_append.mp hg with p | p
      · exact ok.len2 gs p
      · rw [List.mem_singleton.mp p]; exact fl
    · rcases List.mem_append.mp hg with p | p
      · exact ok.fc gs p
      · rw [List.mem_singleton.mp p]; exact fc
  · rintro _ s4 ⟨δ2, rfl, cs, b3, b4, b5, b6, b7, rfl, cl, ok, S, c⟩
    rw [Nat.zero_add, Zge] at cl c
    have c4 := (c.take (n := s.length) kl).mono (c := b + 500) (by omega) (by omega)
    simp only [Za0]
    rw [Za6, (Zaj (i := 2) (t := .cell s.length) rfl).wp]
    exact ⟨_, _, rfl, fr_own S.hi fun t ht => by
      obtain ⟨fs, _, rfl⟩ := List.mem_map.mp ht
      exact Zc9 3 (by decide) (Zhq fs), c4.pure, cs, rfl, by omega, ok, c4, S.take⟩
end Pr
namespace Pr
open PySem L2 Vs
/-! ### claims made -/
structure LT20 (ns : List Int) (s : Sd) : Prop where
  l : LT2 ns s
  f : s.all Zm0 = true
theorem LT20.step {ns : List Int} {s s' : Sd} {k b : Nat} (h : LT20 ns s) (m : Sm k s s') (hk : k ≠ 0) (C : Cx2 s' k b) : LT20 ns s' := ⟨h.l.step m hk C.pure, flat_sm h.f m C⟩
theorem purse20 {ns : List Int} {i : Nat} {s : Sd} (h : LT20 ns s) (hi : i < 64) : wp (Zgq [.cell 0, .int (i : Int)] s) fun t s' => t = .cell s.length ∧ LT20 ns s' ∧ Cx2 s' s.length 64000 := by
  have hf := h.f
  have h := h.l
  obtain ⟨ms, em, _⟩ := cut_ints ns (some (i : Int)) (some ((i : Int) + 1))
  unfold Zgq
  generalize hp0 : (if (0 : Int) > ms.sum - 10 ^ (18 : Int).toNat then 0 else ms.sum - 10 ^ (18 : Int).toNat) % ((10 ^ (60 : Int).toNat) ^ (8 : Int).toNat) = p0
  have b0 : 0 ≤ p0 := by
    rw [← hp0]
    exact Int.emod_nonneg _ (by decide)
  generalize hp1 : ms.sum % 2147483629 = p1
  have b1 : 0 ≤ p1 ∧ p1 < 2147483629 := by omega
  refine wp_dfn1 (u := .lst [.int p0, .int p1, .int (1000 * i)]) h.pu rfl ?_ ⟨rfl, ⟨⟨by rw [List.length_append]; have := h.len; omega, by rw [List.getElem?_append_left (by have := h.len; omega)]; exact h.scr, h.pu.app rfl⟩, by rw [List.all_append, hf]; rfl⟩, ⟨⟨p0, p1, 1000 * i, Zfz, b0, b1.1, b1.2, by omega, by omega⟩, h.pu.app rfl, by decide⟩⟩
  simp only [Zdd, Zb5, Zcq, wx_c, Zay, Zan, Zag, Zcl, Zb2, Zco, Za7, Zbo, Zat, Zbp, Zdk, Zca, Zbx, Zby, Zc1, Zdz, Zbz, Zcz, Zbr, Zd1, Zcn, Zd6, Zao, Zdu, Zb8, Zdw, Zb6, Zbf, Zdv, Zcx, Za3, Zax, Zaq, Zbm, Zbe, Za6, Zbg, Zdo, Zdt, Zcr, Zcs, Zav, Zd4, Zck, Zb3, Zcb, Za0, Zcc, Zc0, Zcv, Zd8, Zec, Zd9, Zb0, Zdl, Zds, Zdm, Zea, Zd7, Zd0, Zcw, Zbk, Zc2, Zcp, Zc3, Zcy, Zcu, Zd3, Zd5, Zd2, Zeb, Za9, Zci, Zcj, Zct, Zcm, Zbh, Zbl, Zaw, Zau, Zbb, Zbc, Zbd, Zbi, Zbj, Za8, List.map_cons, List.map_nil, List.cons_append, List.nil_append, List.length_cons, List.length_nil, List.replicate_succ, List.replicate_zero, List.set_cons_succ, List.set_cons_zero, Nat.reduceAdd, Nat.reduceSub, Nat.reduceLeDiff, Nat.reduceLT, if_true, if_false, reduceIte, Bool.false_eq_true, Nat.zero_le, true_and, and_true, sl_scr h.scr, em, sum_ints, max_2]
  rw [hp0, hp1]
  exact ⟨by decide, by decide, by decide +kernel, by decide +kernel, by decide, cMul_l (by decide), by decide, rfl⟩
noncomputable def Env20 (δ : Ed) : Prop := ∃ b2 b3 b4 b5 b6 b7 b8 b9 b10 b11 b12, δ = [some (.cell 0), some (.exn 11 Zek), b2, b3, b4, b5, b6, b7, b8, b9, b10, b11, b12]
theorem gen20 {ns : List Int} {body : DSt} {δ : Ed} (h0 : Env20 δ)
    (step : ∀ (j : Nat) (s : Sd) (b2 b3 b5 b6 b7 b8 b9 b10 b11 b12 : Option T), j < 63 → LT20 ns s → wp (body [some (.cell 0), some (.exn 11 Zek), b2, b3, some (.int (j : Int)), b5, b6, b7, b8, b9, b10, b11, b12] s) fun f s' => ∃ δ', f = .nx δ' ∧ Env20 δ' ∧ LT20 ns s') :
    wp ((Zar (Zf3 cells63 (xg_n 4) body) (Zde (x_c (.bl true)))) δ [.scr ns]) fun f s' => f = .rt (.bl true) ∧ PureS s' := by
  have key : wp (Zf3 cells63 (xg_n 4) body δ [.scr ns]) fun f s' => ∃ δ', f = .nx δ' ∧ PureS s' := by
    have p0 : PureS [.scr ns] := fun o ho => by rw [List.mem_singleton.mp ho]; rfl
    obtain ⟨b2, b3, b4, b5, b6, b7, b8, b9, b10, b11, b12, rfl⟩ := h0
    rw [Zb3]
    simp only [Zdd, Zb5, Zcq, wx_c, Zay, Zan, Zag, Zcl, Zb2, Zco, Za7, Zbo, Zat, Zbp, Zdk, Zca, Zbx, Zby, Zc1, Zdz, Zbz, Zcz, Zbr, Zd1, Zcn, Zd6, Zao, Zdu, Zb8, Zdw, Zb6, Zbf, Zdv, Zcx, Za3, Zax, Zaq, Zbm, Zbe, Za6, Zbg, Zdo, Zdt, Zcr, Zcs, Zav, Zd4, Zck, Zb3, Zcb, Za0, Zcc, Zc0, Zcv, Zd8, Zec, Zd9, Zb0, Zdl, Zds, Zdm, Zea, Zd7, Zd0, Zcw, Zbk, Zc2, Zcp, Zc3, Zcy, Zcu, Zd3, Zd5, Zd2, Zeb, Za9, Zci, Zcj, Zct, Zcm, Zbh, Zbl, Zaw, Zau, Zbb, Zbc, Zbd, Zbi, Zbj, Za8, List.map_cons, List.map_nil, List.cons_append, List.nil_append, List.length_cons, List.length_nil, List.replicate_succ, List.replicate_zero, List.set_cons_succ, List.set_cons_zero, Nat.reduceAdd, Nat.reduceSub, Nat.reduceLeDiff, Nat.reduceLT, if_true, if_false, reduceIte, Bool.false_eq_true, Nat.zero_le, true_and, and_true]
    have em : cutT (ns.map T.int) none (some (63 : Int)) = (ns.take 63).map T.int := by
      rw [List.map_take]
      exact Zmd (ns.map T.int) 63
    rw [sl_scr (ns := ns) rfl, em]
    simp only [Zne, List.length_map, max_2, Zdd, Zb5, Zcq, wx_c, Zay, Zan, Zag, Zcl, Zb2, Zco, Za7, Zbo, Zat, Zbp, Zdk, Zca, Zbx, Zby, Zc1, Zdz, Zbz, Zcz, Zbr, Zd1, Zcn, Zd6, Zao, Zdu, Zb8, Zdw, Zb6, Zbf, Zdv, Zcx, Za3, Zax, Zaq, Zbm, Zbe, Za6, Zbg, Zdo, Zdt, Zcr, Zcs, Zav, Zd4, Zck, Zb3, Zcb, Za0, Zcc, Zc0, Zcv, Zd8, Zec, Zd9, Zb0, Zdl, Zds, Zdm, Zea, Zd7, Zd0, Zcw, Zbk, Zc2, Zcp, Zc3, Zcy, Zcu, Zd3, Zd5, Zd2, Zeb, Za9, Zci, Zcj, Zct, Zcm, Zbh, Zbl, Zaw, Zau, Zbb, Zbc, Zbd, Zbi, Zbj, Za8, List.map_cons, List.map_nil, List.cons_append, List.nil_append, List.length_cons, List.length_nil, List.replicate_succ, List.replicate_zero, List.set_cons_succ, List.set_cons_zero, Nat.reduceAdd, Nat.reduceSub, Nat.reduceLeDiff, Nat.reduceLT, if_true, if_false, reduceIte, Bool.false_eq_true, Nat.zero_le, true_and, and_true]
    have ml : (ns.take 63).length ≤ 63 := by rw [List.length_take]; omega
    obtain ⟨n, hn, hn2⟩ : ∃ n : Nat, (if ((ns.take 63).length : Int) > 1 then ((ns.take 63).length : Int) else 1) = (n : Int) ∧ n ≤ 63 := by
      by_cases c : ((ns.take 63).length : Int) > 1
      · exact ⟨(ns.take 63).length, if_pos c, ml⟩
      · exact ⟨1, if_neg c, by decide⟩
    rw [hn, Int.toNat_natCast]
    refine ⟨decide_eq_true (by omega), ?_⟩
    refine Zas (Zim (fun i δ s => LT20 ns s ∧ Env20 δ) (ranT n) 0 _ _ ⟨⟨⟨Nat.le_refl _, rfl, p0⟩, rfl⟩, ⟨_, _, _, _, _, _, _, _, _, _, _, rfl⟩⟩ ?_) ?_
    · rintro j t δ s hj ⟨L, b2, b3, b4, b5, b6, b7, b8, b9, b10, b11, b12, rfl⟩
      have jl : j < n := by
        have := (List.getElem?_eq_some_iff.mp hj).1
        rwa [Zge] at this
      have := ran_at hj
      subst this
      rw [Nat.zero_add]
      refine ⟨_, rfl, ?_⟩
      simp only [ditm_f, List.set_cons_succ, List.set_cons_zero]
      refine Zas (step j s b2 b3 b5 b6 b7 b8 b9 b10 b11 b12 (by omega) L) ?_
      rintro _ s1 ⟨δ', rfl, E, L2⟩
      exact ⟨L2, E⟩
    · rintro _ s ⟨δ2, rfl, L, _⟩
      exact ⟨δ2, rfl, L.l.pu⟩
  rw [Zax]
  refine Zas key ?_
  rintro _ s ⟨δ', rfl, p⟩
  simp only [Za0]
  rw [Za6, wx_c]
  exact ⟨rfl, p⟩
/-- behind the claims: what the law asks of them -/
theorem asks20 {s : Sd} {cs ds : List (List Fc)} {δ : Ed} {REST : DSt} {P : DFl → Sd → Prop} (hs : PureS s) (oc : Cs20 cs) (od : Cs20 ds) (h2 : cs.length ≤ 2) (k2 : ds.length ≤ 2) (e8 : δ[8]? = some (some (csT cs))) (e9 : δ[9]? = some (some (csT ds))) (e11 : δ[11]? = some (some (clmT cs))) (e12 : δ[12]? = some (some (clmT ds))) (h : wp (REST δ s) P) :
    wp ((Zar (Zf6 (Zic (Zem (Zap yNe (Ze6 (Zgk 7 Za5 (Zad 11))) (Ze6 (Zad 8)))) (Zic (Zf0 (Zf2 (Zhm "list" (Zgk 7 Za5 (Zad 11))))) (Zem (x_oeqL 7 Zcd (Zad 11) (Zad 8))))) (Zde (x_c (.bl false))) Zei) (Zar (Zf6 (Zic (Zem (x_one 7 Zcd (Zad 11) (Zgs 7 Zc8 (Zaa (Zbs Zdx (Zaa (Zad 8) Zaf)) Zaf)))) (Zic (Zem (Zap yNe (Zns 7 Zcd (Zad 11) (Zad 12)) (Zap yEq (Zad 8) (Zad 9)))) (Zf0 (Zem (x_oneL 7 Zcd (Zad 11) (Zad 8)))))) (Zde (x_c (.bl false))) Zei) (Zar (Zf6 (Zf0 (Zf2 (Zbs Ze1 (Zaa (Zad 11) (Zaa (Zad 12) (Zaa (Zad 8) (Zaa (Zad 9) Zaf))))))) (Zde (x_c (.bl false))) Zei) REST))) δ s) P := by
  have c1 := oc.c8
  have c2 := od.c8
  have i8 : Is (Zad 8 δ s) (csT cs) s := Zaj e8
  have i9 : Is (Zad 9 δ s) (csT ds) s := Zaj e9
  have i11 : Is (Zad 11 δ s) (clmT cs) s := Zaj e11
  have i12 : Is (Zad 12 δ s) (clmT ds) s := Zaj e12
  have isl : Is (Zhm "list" (Zgk 7 Za5 (Zad 11)) δ s) (.bl true) s := by
    unfold Zhm
    rw [(Zi6 hs c1 i11).eq, Zce]
    exact ⟨rfl, rfl⟩
  refine z_go (z_or (l_neR c1 (Zi6 hs c1 i11) i8) (z_or (z_not (k := true) (z_tru isl)) (z_bl (cl_eqL hs i11 i8)))) ?_
  have ne : Is (Zem (Zap yNe (Zns 7 Zcd (Zad 11) (Zad 12)) (Zap yEq (Zad 8) (Zad 9))) δ s) false s := by
    show wp _ _
    rw [Zca, Zay, (cl_eq hs c1 c2 i11 i12).wp, Zay, i8.wp, i9.wp, eq_cs c1 c2, ne_bl, decide_eq_true rfl]
    simp only [Zb0, Bool.not_true]
    first | exact ⟨rfl, rfl⟩ | trivial | exact ⟨trivial, rfl⟩
  refine z_go (z_or (z_bl (cl_ne hs c1 i11 (l_make hs c1 (l_copied hs c1 i8)))) (z_or ne (z_not (k := true) (z_bl (cl_neL hs i11 i8))))) ?_
  have jn : Is (Zbs Ze1 (Zaa (Zad 11) (Zaa (Zad 12) (Zaa (Zad 8) (Zaa (Zad 9) Zaf)))) δ s) (.bl true) s := by
    show wp _ _
    rw [Zao, Zag, i11.wp, Zag, i12.wp, Zag, i8.wp, Zag, i9.wp, Zan]
    exact joined20 hs oc od h2 k2
  exact z_go (z_not (k := true) (z_tru jn)) h
theorem law_true (ns : List Int) : wp (q_law [.cell 0] [.scr ns]) fun t s' => t = .bl true := by
  unfold q_law
  refine Zgj ?_
  have e0 : List.map some [T.cell 0] ++ List.replicate (13 - [T.cell 0].length) none = [some (.cell 0), none, none, none, none, none, none, none, none, none, none, none, none] := rfl
  rw [e0]
  refine pre20 ?_
  refine Zas (gen20 (ns := ns) ⟨_, _, _, _, _, _, _, _, _, _, _, rfl⟩ ?_) ?_
  rotate_left
  · rintro _ s ⟨rfl, p⟩
    exact ⟨rfl, p.take _, rfl⟩
  intro j s b2 b3 b5 b6 b7 b8 b9 b10 b11 b12 jl L
  rw [Zax, Zaq, Zao, Zag, (Zaj (i := 0) (t := .cell 0) rfl).wp, Zag, (Zaj (i := 4) (t := .int (j : Int)) rfl).wp, Zan]
  refine Zas (purse20 L (by omega)) ?_
  rintro _ s1 ⟨rfl, L1, C1⟩
  have k0 : s.length ≠ 0 := by have := L.l.len; omega
  have l0 : 0 < s1.length := by have := L1.l.len; omega
  simp only [Za0, List.set_cons_succ, List.set_cons_zero]
  rw [Zax]
  refine names20 C1 (by decide) l0 L1.f ?_
  intro xs s2 h4 _ an C2 m2 f2
  simp only [Za0]
  rw [Zax, Zck, Zag, Zao, Zag, (Zaj (i := 5) (t := .cell s.length) rfl).wp, Zag, (Zaj (i := 6) (t := Zhb xs) rfl).wp, Zan]
  refine Zas (facts20 an h4 C2 (by decide)) ?_
  rintro _ s3 ⟨cs, rfl, n1, oc, C3, m3⟩
  rw [Zag, Zao, Zag, (Zaj (i := 5) (t := .cell s.length) rfl).wp, Zag, (Zaj (i := 6) (t := Zhb xs) rfl).wp, Zan]
  refine Zas (facts20 an h4 C3 (by decide)) ?_
  rintro _ s4 ⟨ds, rfl, n2, od, C4, m4⟩
  rw [Zan]
  have L4 : LT20 ns s4 := L1.step ((m2.trans m3).trans m4) k0 C4
  simp only [Zd0, Za0, List.set_cons_succ, List.set_cons_zero]
  rw [xs_gv20_of (cs := cs) (ds := ds) ⟨rfl, oc, od, C4.pure, rfl, rfl⟩]
  simp only [gvE20, List.set_cons_succ, List.set_cons_zero]
  refine asks20 C4.pure oc od n1 n2 rfl rfl rfl rfl ?_
  rw [Zb3, Zcb, wx_c]
  simp only [Zds]
  refine ⟨by decide, ?_⟩
  refine Zas (Zim (fun i δ s' => ∃ b7, δ = [some (.cell 0), some (.exn 11 Zek), none, none, some (.int (j : Int)), some (.cell s.length), some (Zhb xs), b7, some (csT cs), some (csT ds), none, some (clmT cs), some (clmT ds)] ∧ Cx2 s' s.length (65400 + 60 * i) ∧ LT20 ns s') (ranT 3) 0 _ s4 ⟨_, rfl, C4, L4⟩ ?_) ?_
  · rintro i t δ s5 hi ⟨b7, rfl, C5, L5⟩
    rw [Nat.zero_add] at C5 ⊢
    have il : i < 3 := by
      have := (List.getElem?_eq_some_iff.mp hi).1
      rwa [Zge] at this
    refine ⟨_, rfl, ?_⟩
    simp only [ditm_f, List.set_cons_succ, List.set_cons_zero]
    rw [Zdo, Zbz, Zbx]
    refine Zas (refused_spoilt (cs := cs) (k := s.length) (i := 5) (j := 8) rfl rfl oc n1 C5 (by omega) L5.f) ?_
    rintro _ s6 ⟨rfl, C6, m6, f6⟩
    simp only [Zby, Zdl, Bool.not_true, Bool.false_eq_true, if_false, Za3]
    exact ⟨_, rfl, C6.mono (by omega) (by omega), L5.step m6 k0 C6⟩
  · rintro _ s5 ⟨δ2, rfl, b7, rfl, C5, L5⟩
    exact ⟨_, rfl, ⟨_, _, _, _, _, _, _, _, _, _, _, rfl⟩, L5⟩
end Pr
namespace Pr
open PySem L2 Vs
/-! ### The end: what the top has written; the law's own frame -/
theorem df_mk {K : PySem.W.Frag} {h : Heap} {mg : Str → Option Value} {x qual : Str} {st : Stmt} {ps : List Str} {f : Addr} {oc : Value} {od an : Option Addr} {sl : Array (Option Value)} {kV dc pm cd ct : Value} (X : K.In h) (G : h.Ns mainGlobals mg)
    (a : PySem.W.nsIn K mainGlobals x = some (some (.ref f))) (l : K.lookup f = some ⟨oc, od, .func (PySem.W.fnOf x qual (defArgs st) (defBody st) (defScope st) .none kV dc pm an cd ct), sl⟩) (c : PySem.W.codeIn K cd qual = true) (k : PySem.W.keepIn K (.ref f) = true)
    (b : ∀ (kV doc pm : Value) (an : Option Addr) (cdv ct : Value) (us : List Value), us.length = ps.length → bindArgs (PySem.W.fnOf x qual (defArgs st) (defBody st) (defScope st) .none kV doc pm an cdv ct) ⟨us, []⟩ = pure (ps.zip us)) : ∃ f fd, Df K mg x qual st f fd ps :=
  ⟨f, _, fun_mk l c k, PySem.W.mg_of X G a, (fun_mk l c k).binds b⟩
noncomputable def spLaw : Sp := fun vs H Q E => ∃ (a : Addr) (ns : List Int), vs = [V.ref a] ∧ (∃ o, H a = some (.frz o (.lst (ns.map V.int)))) ∧ ns.length ≤ 63 ∧ ∀ H', Q (.bl true) H'
theorem spLaw_of {G : Gt} {fn : Nat → Str} {d : Fn} (ok : ∀ ns : List Int, ns.length ≤ 63 → ∃ m, d [.loc 0] [.scr ns] = .ok (.bl true) m) {vs : List V} {H : Hp} {Q : VK} {E : XK} (h : spLaw vs H Q E) : spF G fn 1 d vs H Q E := by
  obtain ⟨a, ns, rfl, ⟨o, ho⟩, hl, q⟩ := h
  obtain ⟨m, e⟩ := ok ns hl
  refine ⟨⟨[a], fun _ => none⟩, [.scr ns], [.loc 0], ⟨rfl, fun i j b hi hj => ?_, fun l ob b hl hb => ?_⟩, .cons ⟨a, rfl, rfl⟩ .nil, rfl, ?_⟩
  · have h1 : i < 1 := (List.getElem?_eq_some_iff.mp hi).1
    have h2 : j < 1 := (List.getElem?_eq_some_iff.mp hj).1
    omega
  · have h1 : l < 1 := (List.getElem?_eq_some_iff.mp hb).1
    obtain rfl : l = 0 := by omega
    cases hl
    cases hb
    exact ⟨o, ho⟩
  · rw [e]
    intro ρ' H' v g R r
    rw [show v = .bl true from r]
    exact q H'
theorem bind_law {K : PySem.W.Frag} {x qual : Str} {st : Stmt} {f : Addr} {fd : FuncData} {p : Str} (F : Fun K x qual st f fd) (b : ∀ (kV doc pm : Value) (an : Option Addr) (cdv ct : Value) (u : Value), bindArgs (PySem.W.fnOf x qual (defArgs st) (defBody st) (defScope st) .none kV doc pm an cdv ct) ⟨[u], []⟩ = pure [(p, u)] := by intros; rfl) (s : Shared) (u : Value) : BindsTo s fd ⟨[u], []⟩ [(p, u)] := by
  obtain ⟨oc, od, kV, doc, pm, an, cdv, ct, osl, rfl, _⟩ := F.ex
  exact .of_eq (b kV doc pm an cdv ct u)
/-- the law's walk where its own body asks repr (behind V49) -/
theorem walkG {l : PySem.W.OpenLaw} {k : Nat} {q : Program} {loose : List Str} {XP : (Str → Option Value) → Heap → Prop} {YP : World → Heap → Prop} {d : DefRec} {K : Params → PySem.W.Frag} (hn : l.most = some 63) (hr : Room k callerA) (hdf : d.params.defaults = [])
    (nl : ∀ p, ((K p).all fun q => match q.2.cls with | .type "list" => false | _ => true) = true) (hY : ∀ (w : World) (h : Heap), YP w h → (K w.params).In h)
    (F : ∀ (w : World) (mg : Str → Option Value) (fa : Addr) (h : Heap), (K w.params).In h → h.Ns mainGlobals mg → mg d.name = some (.ref fa) →
      ∃ fd : FuncData, (∀ (s : Shared) (u : Value), BindsTo s fd ⟨[u], []⟩ [("_law_script", u)]) ∧ ∀ base : Heap, (K w.params).In base → base.Ns mainGlobals mg → FnG l.prog w (K w.params) mg base k fa fd ["_law_script"] spLaw) :
    PySem.W.WalkO q loose XP YP l.row.toRowW d [] (fun f vs => PySem.call f vs) :=
  law_endG (n := 63) (sp := spLaw) hn (by decide) hdf hr nl hY F fun H a o ns hl hf => ⟨a, ns, rfl, ⟨o, hf⟩, hl, fun _ => rfl⟩

structure ClaimF (K : PySem.W.Frag) (mg : Str → Option Value) (C B p : Addr) (ad : Nat → Addr) (fdd : Nat → FuncData) : Prop where
  d7 : Dm K "__init__" "Claim.__init__" Zdb (ad 7) (fdd 7) ["self", "conflicts"]
  m7 : Meth K C "__init__" (ad 7)
  d16 : Dm K "conflicts" "Claim.conflicts" Zcf (ad 16) (fdd 16) ["self"]
  p16 : PropOf K C "conflicts" p (ad 16)
  d18 : Dm K "__eq__" "Claim.__eq__" Zeo (ad 18) (fdd 18) ["self", "other"]
  m18 : Meth K C "__eq__" (ad 18)
  d20 : Dm K "__and__" "Claim.__and__" Zel (ad 20) (fdd 20) ["self", "other"]
  m20 : Meth K C (PySem.dunder (Operator.info .BitAnd).2) (ad 20)
  cls : Cls K C
  mks : PySem.W.makesIn K C = true
  kp : PySem.W.keepIn K (.ref C) = true
  isi : Isi K C
  self : PySem.W.selfFirst K C = true
  mgC : mg "Claim" = some (.ref C)
  na : NoAttr K C "_conflicts"
  neq : Neq K C
  noin : NoIn K C (Operator.info .BitAnd).2
  nsub : NotSub K C
  noC : PySem.W.kitOne K (.ref C) (.type "list") = some false
theorem claim_mk {K : PySem.W.Frag} {h : Heap} {mg : Str → Option Value} {C p f7 f16 f18 f20 : Addr} (X : K.In h) (G : h.Ns mainGlobals mg)
    {od7 an7 : Option Addr} {sl7 : Array (Option Value)} {oc7 kV7 dc7 pm7 cd7 ct7 : Value}
    {od16 an16 : Option Addr} {sl16 : Array (Option Value)} {oc16 kV16 dc16 pm16 cd16 ct16 : Value} {rest16 : List Value}
    {od18 an18 : Option Addr} {sl18 : Array (Option Value)} {oc18 kV18 dc18 pm18 cd18 ct18 : Value}
    {od20 an20 : Option Addr} {sl20 : Array (Option Value)} {oc20 kV20 dc20 pm20 cd20 ct20 : Value}
    (aC : PySem.W.nsIn K mainGlobals "Claim" = some (some (.ref C)))
    (ne : PySem.W.findIn K (.ref C) "__ne__" = some (some (.builtin "object.__ne__"))) (ob : PySem.W.subIn K (.ref C) (.type "object") = some true)
    (q1 : (match PySem.W.clsIn K C with | some cd => cd.mro == [.ref C, .type "object"] | none => false) = true) (q2 : PySem.W.findIn K (.ref C) (dunderI (Operator.info .BitAnd).2) = some none) (q3 : PySem.W.findIn K (.type "object") (dunderI (Operator.info .BitAnd).2) = some none) (q4 : PySem.W.notFirst K C (.type "list") = true)
    (a7 : PySem.W.findIn K (.ref C) "__init__" = some (some (.ref f7))) (i7 : PySem.W.isFn K (.ref f7) = true)
    (l7 : K.lookup f7 = some ⟨oc7, od7, .func (PySem.W.fnOf "__init__" "Claim.__init__" (defArgs Zdb) (defBody Zdb) (defScope Zdb) .none kV7 dc7 pm7 an7 cd7 ct7), sl7⟩) (c7 : PySem.W.codeIn K cd7 "Claim.__init__" = true) (k7 : PySem.W.keepIn K (.ref f7) = true)
    (a16 : PySem.W.findIn K (.ref C) "conflicts" = some (some (.ref p))) (g16 : PySem.W.specialIn K (.ref p) "__get__" = some (some (.builtin "property.__get__"))) (t16 : PySem.W.takesIn K (.ref p) = some true) (r16 : PySem.W.recIn K p "property" = some (.ref f16 :: rest16))
    (l16 : K.lookup f16 = some ⟨oc16, od16, .func (PySem.W.fnOf "conflicts" "Claim.conflicts" (defArgs Zcf) (defBody Zcf) (defScope Zcf) .none kV16 dc16 pm16 an16 cd16 ct16), sl16⟩) (c16 : PySem.W.codeIn K cd16 "Claim.conflicts" = true) (k16 : PySem.W.keepIn K (.ref f16) = true)
    (a18 : PySem.W.findIn K (.ref C) "__eq__" = some (some (.ref f18))) (i18 : PySem.W.isFn K (.ref f18) = true)
    (l18 : K.lookup f18 = some ⟨oc18, od18, .func (PySem.W.fnOf "__eq__" "Claim.__eq__" (defArgs Zeo) (defBody Zeo) (defScope Zeo) .none kV18 dc18 pm18 an18 cd18 ct18), sl18⟩) (c18 : PySem.W.codeIn K cd18 "Claim.__eq__" = true) (k18 : PySem.W.keepIn K (.ref f18) = true)
    (a20 : PySem.W.findIn K (.ref C) "__and__" = some (some (.ref f20))) (i20 : PySem.W.isFn K (.ref f20) = true)
    (l20 : K.lookup f20 = some ⟨oc20, od20, .func (PySem.W.fnOf "__and__" "Claim.__and__" (defArgs Zel) (defBody Zel) (defScope Zel) .none kV20 dc20 pm20 an20 cd20 ct20), sl20⟩) (c20 : PySem.W.codeIn K cd20 "Claim.__and__" = true) (k20 : PySem.W.keepIn K (.ref f20) = true)
    (pg : PySem.W.plainGet K C Str.empty = true) (hd : PySem.W.hasDictIn K C = true) (po : PySem.W.plainOver K C = true) (sa : PySem.W.findIn K (.ref C) "__setattr__" = some (some (.builtin "object.__setattr__"))) (mk : PySem.W.makesIn K C = true) (kc : PySem.W.keepIn K (.ref C) = true) (sf : PySem.W.selfFirst K C = true)
    (ca : PySem.W.findIn K (.ref C) "__class__" = some (some (.builtin "object.__class__"))) (cn : PySem.W.specialIn K (.builtin "object.__class__") "__get__" = some (some (.builtin "getset_descriptor.__get__"))) (tk : PySem.W.takesIn K (.builtin "object.__class__") = some true) (mo : PySem.W.mroIn K C (.type "object") = some true)
    (no : ∀ t ∈ (["NoneType", "bool", "int", "str", "list", "tuple", "dict"] : List String), PySem.W.kitOne K (.type t) (.ref C) = some false)
    (n1 : PySem.W.findIn K (.ref C) "_conflicts" = some none) (kC : PySem.W.kitOne K (.ref C) (.type "list") = some false) :
    ∃ (C B p : Addr) (ad : Nat → Addr) (fdd : Nat → FuncData), ClaimF K mg C B p ad fdd := by
  have F7 := fun_mk (st := Zdb) l7 c7 k7
  have b7 := F7.binds (ps := ["self", "conflicts"]) fun _ _ _ _ _ _ us hl => match us, hl with | [_, _], _ => rfl
  have F16 := fun_mk (st := Zcf) l16 c16 k16
  have b16 := F16.binds (ps := ["self"]) fun _ _ _ _ _ _ us hl => match us, hl with | [_], _ => rfl
  have F18 := fun_mk (st := Zeo) l18 c18 k18
  have b18 := F18.binds (ps := ["self", "other"]) fun _ _ _ _ _ _ us hl => match us, hl with | [_, _], _ => rfl
  have F20 := fun_mk (st := Zel) l20 c20 k20
  have b20 := F20.binds (ps := ["self", "other"]) fun _ _ _ _ _ _ us hl => match us, hl with | [_, _], _ => rfl
  refine ⟨C, C, p, (fun | 7 => f7 | 16 => f16 | 18 => f18 | 20 => f20 | _ => 0), (fun | 7 => (PySem.W.fnOf "__init__" "Claim.__init__" (defArgs Zdb) (defBody Zdb) (defScope Zdb) .none kV7 dc7 pm7 an7 cd7 ct7) | 16 => (PySem.W.fnOf "conflicts" "Claim.conflicts" (defArgs Zcf) (defBody Zcf) (defScope Zcf) .none kV16 dc16 pm16 an16 cd16 ct16) | 18 => (PySem.W.fnOf "__eq__" "Claim.__eq__" (defArgs Zeo) (defBody Zeo) (defScope Zeo) .none kV18 dc18 pm18 an18 cd18 ct18) | 20 => (PySem.W.fnOf "__and__" "Claim.__and__" (defArgs Zel) (defBody Zel) (defScope Zel) .none kV20 dc20 pm20 an20 cd20 ct20) | _ => (PySem.W.fnOf "__init__" "Claim.__init__" (defArgs Zdb) (defBody Zdb) (defScope Zdb) .none kV7 dc7 pm7 an7 cd7 ct7)), ?_⟩
  exact ⟨⟨F7, b7⟩, ⟨a7, i7, k7⟩, ⟨F16, b16⟩, ⟨a16, g16, t16, ⟨_, r16⟩⟩, ⟨F18, b18⟩, ⟨a18, i18, k18⟩, ⟨F20, b20⟩, ⟨a20, i20, k20⟩, ⟨pg, hd, po, sa⟩, mk, kc, ⟨ca, cn, tk, mo, no⟩, sf, PySem.W.mg_of X G aC, n1, ⟨ne, ob⟩, noIn_of q1 q2 q3, q4, kC⟩
structure ErrsF (K : PySem.W.Frag) (mg : Str → Option Value) (ct ad : Nat → Addr) (fdd : Nat → FuncData) : Prop where
  er_InvalidClaim : ErrT K mg "InvalidClaim" "InvalidClaim.__init__" "value" Zdh (ct 11) (ad 25) (fdd 25)
  no_InvalidClaim : ∀ t ∈ (["NoneType", "bool", "int", "str", "list", "tuple", "dict"] : List String), PySem.W.kitOne K (.type t) (.ref (ct 11)) = some false
  kx_InvalidClaim : ∀ k ∈ [11], PySem.W.kitOne K (.ref (ct k)) (.ref (ct 11)) = some (decide (k = 11))
  exs : ∀ k ∈ [11], ExcC K (ct k)
  mg_ThemeError : mg "ThemeError" = some (.ref (ct 50))
  exm : ∀ k ∈ [11], PySem.W.exmOne K (.ref (ct k)) (.ref (ct 50)) = some true
theorem err_mk {K : PySem.W.Frag} {h : Heap} {mg : Str → Option Value} {x q f : Str} {st : Stmt} {C fI T : Addr} {nm qc : Str} {N : Addr} {bs bm : List Value} {sn : List Str} {sub : List Value} {ab : Bool} {col : Option Bool} {dd : Option Addr} {k0 k1 k2 k3 k5 : Option Value} {oc kV dc pm cd ctt : Value} {od an : Option Addr} {sl sT : Array (Option Value)} {cT : Value} {dT : Option Addr} {n : Nat} (X : K.In h) (G : h.Ns mainGlobals mg) (a : PySem.W.nsIn K mainGlobals x = some (some (.ref C))) (l : K.lookup C = some (PySem.excClassObj nm qc C N bs bm true sn sub ab col dd k0 k1 k2 k3 k5 "ValueError.__new__")) (r : PySem.HandSPX.refsVE bm = true)
    (sa : PySem.W.findIn K (.ref C) "__setattr__" = some (some (.builtin "object.__setattr__"))) (ex : PySem.W.subIn K (.ref C) (.type "BaseException") = some true) (ty : PySem.W.typeIn K (.ref C) = some (.type "type")) (kc : PySem.W.keepIn K (.ref C) = true) (ini : PySem.W.findIn K (.ref C) "__init__" = some (some (.ref fI))) (ti : PySem.W.typeIn K (.ref fI) = some (.type "function")) (no : PySem.W.findIn K (.ref C) f = some none)
    (lf : K.lookup fI = some ⟨oc, od, .func (PySem.W.fnOf "__init__" q (defArgs st) (defBody st) (defScope st) (.ref T) kV dc pm an cd ctt), sl⟩) (lT : K.lookup T = some ⟨cT, dT, .seq #[.none] n, sT⟩) (c : PySem.W.codeIn K cd q = true) (kf : PySem.W.keepIn K (.ref fI) = true)
    (b : ∀ (T : Addr) (kV doc pm : Value) (an : Option Addr) (cdv ct : Value) (us its : List Value), us.length = 2 → its.length = 1 → ∃ k, bindArgs (PySem.W.fnOf "__init__" q (defArgs st) (defBody st) (defScope st) (.ref T) kV doc pm an cdv ct) ⟨us, []⟩ = seqItems? (.ref T) >>= k ∧ k (some its.toArray) = pure ((["self", f] : List Str).zip (us ++ its.drop 1))) : ErrT K mg x q f st C fI (PySem.W.fnOf "__init__" q (defArgs st) (defBody st) (defScope st) (.ref T) kV dc pm an cd ctt) := by
  have F : FunD K "__init__" q (defArgs st) (defBody st) (defScope st) [.non] [] fI (PySem.W.fnOf "__init__" q (defArgs st) (defBody st) (defScope st) (.ref T) kV dc pm an cd ctt) := ⟨⟨oc, od, _, _, _, _, _, _, _, sl, rfl, lf, c, .inr ⟨by simp, T, _, [.none], n, rfl, lT, rfl, .cons rfl .nil⟩, .inl rfl⟩, kf⟩
  obtain ⟨ds, hv, hb⟩ := F.binds1 (ps := (["self", f] : List Str)) 2 1 (by simp) rfl b
  cases hv
  exact ⟨⟨⟨⟨nm, qc, N, bs, bm, sn, sub, ab, col, dd, k0, k1, k2, k3, k5, l, r⟩, sa, ex, ty, kc⟩, ini, ti, no, PySem.W.mg_of X G a, hb⟩, F⟩
theorem errs_mk {K : PySem.W.Frag} {h : Heap} {mg : Str → Option Value} {CT C0 f0 T0 : Addr} (X : K.In h) (G : h.Ns mainGlobals mg)
    {nm0 qc0 : Str} {N0 : Addr} {bs0 bm0 : List Value} {sn0 : List Str} {sub0 : List Value} {ab0 : Bool} {col0 : Option Bool} {dd0 : Option Addr} {ka0 kb0 kc0 kd0 ke0 : Option Value} {oc0 kV0 dc0 pm0 cd0 ctt0 : Value} {od0 an0 : Option Addr} {sl0 sT0 : Array (Option Value)} {cT0 : Value} {dT0 : Option Addr} {n0 : Nat}
    (aE0 : PySem.W.nsIn K mainGlobals "InvalidClaim" = some (some (.ref C0))) (lE0 : K.lookup C0 = some (PySem.excClassObj nm0 qc0 C0 N0 bs0 bm0 true sn0 sub0 ab0 col0 dd0 ka0 kb0 kc0 kd0 ke0 "ValueError.__new__")) (rE0 : PySem.HandSPX.refsVE bm0 = true)
    (sE0 : PySem.W.findIn K (.ref C0) "__setattr__" = some (some (.builtin "object.__setattr__"))) (xE0 : PySem.W.subIn K (.ref C0) (.type "BaseException") = some true) (tE0 : PySem.W.typeIn K (.ref C0) = some (.type "type")) (kE0 : PySem.W.keepIn K (.ref C0) = true) (iE0 : PySem.W.findIn K (.ref C0) "__init__" = some (some (.ref f0))) (uE0 : PySem.W.typeIn K (.ref f0) = some (.type "function")) (nE0 : PySem.W.findIn K (.ref C0) "value" = some none)
    (lF0 : K.lookup f0 = some ⟨oc0, od0, .func (PySem.W.fnOf "__init__" "InvalidClaim.__init__" (defArgs Zdh) (defBody Zdh) (defScope Zdh) (.ref T0) kV0 dc0 pm0 an0 cd0 ctt0), sl0⟩) (lT0 : K.lookup T0 = some ⟨cT0, dT0, .seq #[.none] n0, sT0⟩) (cF0 : PySem.W.codeIn K cd0 "InvalidClaim.__init__" = true) (kF0 : PySem.W.keepIn K (.ref f0) = true)
    (gE0 : PySem.W.findIn K (.ref C0) "__getattribute__" = some (some (.builtin "BaseException.__getattribute__"))) (hE0 : PySem.W.findIn K (.ref C0) "__getattr__" = some none) (dE0 : PySem.W.hasDictIn K C0 = true) (oE0 : PySem.W.findIn K (.ref C0) "__class__" = some (some (.builtin "object.__class__"))) (mE0 : PySem.W.mroIn K C0 (.type "object") = some true)
    (no0 : ∀ t ∈ (["NoneType", "bool", "int", "str", "list", "tuple", "dict"] : List String), PySem.W.kitOne K (.type t) (.ref C0) = some false)
    (cn : PySem.W.specialIn K (.builtin "object.__class__") "__get__" = some (some (.builtin "getset_descriptor.__get__"))) (tk : PySem.W.takesIn K (.builtin "object.__class__") = some true) (aT : PySem.W.nsIn K mainGlobals "ThemeError" = some (some (.ref CT)))
    (em0 : PySem.W.exmOne K (.ref C0) (.ref CT) = some true)
    (kx0_0 : PySem.W.kitOne K (.ref C0) (.ref C0) = some true)
    : ∃ (ct ad : Nat → Addr) (fdd : Nat → FuncData), ErrsF K mg ct ad fdd := by
  refine ⟨fun | 11 => C0 | _ => CT, fun | 25 => f0 | _ => 0, fun | 25 => (PySem.W.fnOf "__init__" "InvalidClaim.__init__" (defArgs Zdh) (defBody Zdh) (defScope Zdh) (.ref T0) kV0 dc0 pm0 an0 cd0 ctt0) | _ => (PySem.W.fnOf "__init__" "InvalidClaim.__init__" (defArgs Zdh) (defBody Zdh) (defScope Zdh) (.ref T0) kV0 dc0 pm0 an0 cd0 ctt0), ?_⟩
  have q0 := err_mk X G aE0 lE0 rE0 sE0 xE0 tE0 kE0 iE0 uE0 nE0 lF0 lT0 cF0 kF0 (fun _ _ _ _ _ _ _ us its h1 h2 => match us, its, h1, h2 with | [_, _], [_], _, _ => ⟨_, rfl, rfl⟩)
  have z0 : ∀ k ∈ [11], PySem.W.kitOne K (.ref ((fun | 11 => C0 | _ => CT : Nat → Addr) k)) (.ref C0) = some (decide (k = 11)) := by
    intro k hk
    simp only [List.mem_cons, List.not_mem_nil, or_false] at hk
    rcases hk with rfl
    · exact kx0_0
  have y1 : ∀ k ∈ [11], ExcC K ((fun | 11 => C0 | _ => CT : Nat → Addr) k) := by
    intro k hk
    simp only [List.mem_cons, List.not_mem_nil, or_false] at hk
    rcases hk with rfl
    · exact ⟨gE0, hE0, xE0, dE0, oE0, cn, tk, mE0⟩
  have y2 : ∀ k ∈ [11], PySem.W.exmOne K (.ref ((fun | 11 => C0 | _ => CT : Nat → Addr) k)) (.ref CT) = some true := by
    intro k hk
    simp only [List.mem_cons, List.not_mem_nil, or_false] at hk
    rcases hk with rfl
    · exact em0
  exact ⟨q0, no0, z0, y1, PySem.W.mg_of X G aT, y2⟩
theorem top_mk {K : PySem.W.Frag} {mg : Str → Option Value} {f0 f1 f2 f3 f4 f5 f6 f8 f9 f10 f11 f12 f13 f14 f15 f17 f19 f21 f22 f23 f24 : Addr} {g0 g1 g2 g3 g4 g5 g6 g8 g9 g10 g11 g12 g13 g14 g15 g17 g19 g21 g22 g23 g24 : FuncData} {CY BY pY : Addr} {adY : Nat → Addr} {fdY : Nat → FuncData} (Y : ClaimF K mg CY BY pY adY fdY) {ctE adE : Nat → Addr} {fdE : Nat → FuncData} (Z : ErrsF K mg ctE adE fdE)
    (D0 : Df K mg "is_name" "is_name" st_is_name f0 g0 ["x"])
    (D1 : Df K mg "is_whole" "is_whole" st_is_whole f1 g1 ["x"])
    (D2 : Df K mg "is_zero" "is_zero" st_is_zero f2 g2 ["x"])
    (D3 : Df K mg "is_end" "is_end" st_is_end f3 g3 ["x"])
    (D4 : Df K mg "is_fact" "is_fact" st_is_fact f4 g4 ["x"])
    (D5 : Df K mg "is_conflict" "is_conflict" st_is_conflict f5 g5 ["x"])
    (D6 : Df K mg "are_conflicts" "are_conflicts" st_are_conflicts f6 g6 ["x"])
    (D8 : Df K mg "_law_refused" "_law_refused" st__law_refused f8 g8 ["_law_groups"])
    (D9 : Df K mg "_law_purse" "_law_purse" st__law_purse f9 g9 ["_law_script", "_law_at"])
    (D10 : Df K mg "_law_mixed" "_law_mixed" st__law_mixed f10 g10 ["_law_seed", "_law_step"])
    (D11 : Df K mg "_law_draw" "_law_draw" st__law_draw f11 g11 ["_law_purse_here", "_law_many"])
    (D12 : Df K mg "_law_name" "_law_name" st__law_name f12 g12 ["_law_purse_here", "_law_names"])
    (D13 : Df K mg "_law_number" "_law_number" st__law_number f13 g13 ["_law_purse_here"])
    (D14 : Df K mg "_law_facts" "_law_facts" st__law_facts f14 g14 ["_law_purse_here", "_law_ends"])
    (D15 : Df K mg "_law_copied" "_law_copied" st__law_copied f15 g15 ["_law_groups"])
    (D17 : Df K mg "_law_spoil" "_law_spoil" st__law_spoil f17 g17 ["_law_groups"])
    (D19 : Df K mg "require_claim" "require_claim" st_require_claim f19 g19 ["claim"])
    (D21 : Df K mg "_law_joined" "_law_joined" st__law_joined f21 g21 ["_law_claim", "_law_second", "_law_due", "_law_other"])
    (D22 : Df K mg "_law_odd_fact" "_law_odd_fact" st__law_odd_fact f22 g22 ["_law_purse_here", "_law_fact"])
    (D23 : Df K mg "_law_spoilt" "_law_spoilt" st__law_spoilt f23 g23 ["_law_purse_here", "_law_groups"])
    (D24 : Df K mg "law" "law" st_law f24 g24 ["_law_script"])
    (n_all : mg "all" = none)
    (n_bool : mg "bool" = none)
    (n_int : mg "int" = none)
    (n_isinstance : mg "isinstance" = none)
    (n_len : mg "len" = none)
    (n_list : mg "list" = none)
    (n_max : mg "max" = none)
    (n_range : mg "range" = none)
    (n_repr : mg "repr" = none)
    (n_str : mg "str" = none)
    (n_sum : mg "sum" = none)
    (n_tuple : mg "tuple" = none)
    (c_LONGEST_NAME : ∃ t, mg "LONGEST_NAME" = some (.int 10 t))
    : Top K mg (fun | 0 => f0 | 1 => f1 | 2 => f2 | 3 => f3 | 4 => f4 | 5 => f5 | 6 => f6 | 7 => adY 7 | 8 => f8 | 9 => f9 | 10 => f10 | 11 => f11 | 12 => f12 | 13 => f13 | 14 => f14 | 15 => f15 | 16 => adY 16 | 17 => f17 | 18 => adY 18 | 19 => f19 | 20 => adY 20 | 21 => f21 | 22 => f22 | 23 => f23 | 24 => f24 | 25 => adE 25 | 26 => pY | _ => 0) (fun | 0 => g0 | 1 => g1 | 2 => g2 | 3 => g3 | 4 => g4 | 5 => g5 | 6 => g6 | 7 => fdY 7 | 8 => g8 | 9 => g9 | 10 => g10 | 11 => g11 | 12 => g12 | 13 => g13 | 14 => g14 | 15 => g15 | 16 => fdY 16 | 17 => g17 | 18 => fdY 18 | 19 => g19 | 20 => fdY 20 | 21 => g21 | 22 => g22 | 23 => g23 | 24 => g24 | 25 => fdE 25 | _ => g0) (fun | 7 => CY | 11 => ctE 11 | 50 => ctE 50 | _ => 0) where
  er_InvalidClaim := Z.er_InvalidClaim
  no_InvalidClaim := Z.no_InvalidClaim
  kx_InvalidClaim := by
    have z := Z.kx_InvalidClaim
    intro k hk
    have y := z k hk
    simp only [List.mem_cons, List.not_mem_nil, or_false] at hk
    rcases hk with rfl <;> exact y
  exs := by
    have z := Z.exs
    intro k hk
    have y := z k hk
    simp only [List.mem_cons, List.not_mem_nil, or_false] at hk
    rcases hk with rfl <;> exact y
  exm := by
    have z := Z.exm
    intro k hk
    have y := z k hk
    simp only [List.mem_cons, List.not_mem_nil, or_false] at hk
    rcases hk with rfl <;> exact y
  mg_ThemeError := Z.mg_ThemeError
  d_is_name := D0
  d_is_whole := D1
  d_is_zero := D2
  d_is_end := D3
  d_is_fact := D4
  d_is_conflict := D5
  d_are_conflicts := D6
  d_Claim_init := Y.d7
  d__law_refused := D8
  d__law_purse := D9
  d__law_mixed := D10
  d__law_draw := D11
  d__law_name := D12
  d__law_number := D13
  d__law_facts := D14
  d__law_copied := D15
  d_Claim_conflicts := Y.d16
  d__law_spoil := D17
  d_Claim_eq := Y.d18
  d_require_claim := D19
  d_Claim_and := Y.d20
  d__law_joined := D21
  d__law_odd_fact := D22
  d__law_spoilt := D23
  d_law := D24
  n_all := n_all
  n_bool := n_bool
  n_int := n_int
  n_isinstance := n_isinstance
  n_len := n_len
  n_list := n_list
  n_max := n_max
  n_range := n_range
  n_repr := n_repr
  n_str := n_str
  n_sum := n_sum
  n_tuple := n_tuple
  c_LONGEST_NAME := c_LONGEST_NAME
  cls_Claim := Y.cls
  isi_Claim := Y.isi
  na_conflicts := Y.na
  mg_Claim := Y.mgC
  mk_Claim := ⟨Y.mks, Y.m7.at_, Y.m7.fn, Y.kp⟩
  self_Claim := Y.self
  noin_Claim := Y.noin
  nsub_Claim := Y.nsub
  pr_Claim_conflicts := Y.p16
  me_Claim_eq := Y.m18
  neq_Claim := Y.neq
  me_Claim_and := Y.m20
  noT_list := by
    intro c hc
    simp only [List.mem_cons, List.not_mem_nil, or_false] at hc
    subst hc
    exact ⟨Y.cls, Y.isi, Y.noC⟩
theorem Zn0 (ns : List Int) (h : ns.length ≤ 63) : ∃ m, d_law [.loc 0] [.scr ns] = .ok (.bl true) m := by
  obtain ⟨t, s', e, et⟩ := Zlm (law_true ns)
  have co : CO none [0] [.scr ns] [.scr ns] := ⟨rfl, by decide, fun k l o a b => by
    cases k with
    | zero =>
      cases a
      cases b
      exact ⟨_, rfl, rfl⟩
    | succ k => simp at a⟩
  have r := rf_law (lk := none) rfl (c := [0]) (μ := [.scr ns]) (ws := [.loc 0]) (ts := [.cell 0]) (s := [.scr ns]) co (by
    unfold DtL
    refine ⟨_, _, rfl, ?_, ?_⟩
    · unfold Dt; exact ⟨0, rfl, rfl⟩
    · unfold DtL; rfl)
  rw [e] at r
  obtain ⟨a, m, c', e2, _, _, d⟩ := r
  rw [et] at d
  unfold Dt at d
  rw [d] at e2
  exact ⟨m, e2⟩
theorem law_ok {P : Program} {w : World} {K : PySem.W.Frag} {mg : Str → Option Value} {base : Heap} {ad : Nat → Addr} {fdd : Nat → FuncData} {ct : Nat → Addr} (T : Top K mg ad fdd ct) : FnG P w K mg base 11 (ad 24) (fdd 24) ["_law_script"] spLaw :=
  (ok_law T).imp fun vs H Q E h => spLaw_of Zn0 h
end Pr
open PySem PySem.W PyProof.Rows
set_option maxRecDepth 100000 in
set_option maxHeartbeats 0 in
theorem PySem.Challenge.cw_laterthemes_k20_claims_made_holds : PySem.Challenge.rw_laterthemes_k20_claims_made.Holds := by
  w_on; o_law; k_head; (case hw => w_witness2)
  k_fill
  refine Pr.walkG (k := 11) (l := PySem.Challenge.rw_laterthemes_k20_claims_made) rfl ⟨rfl, by decide, by decide⟩ rfl (fun p => by kernel_rfl) (fun w h Y => PySem.W.kIn_of Y) ?F
  case F =>
    intro w mg fa h KX G hmg
    obtain ⟨CY, BY, pY, adY, fdY, Y⟩ := (by
      refine' Pr.claim_mk KX G ?yaC ?yne ?yob ?yq1 ?yq2 ?yq3 ?yq4 ?ya7 ?yi7 ?yl7 ?yc7 ?yk7 ?ya16 ?yg16 ?yt16 ?yr16 ?yl16 ?yc16 ?yk16 ?ya18 ?yi18 ?yl18 ?yc18 ?yk18 ?ya20 ?yi20 ?yl20 ?yc20 ?yk20 ?ypg ?yhd ?ypo ?ysa ?ymk ?ykc ?ysf ?yca ?ycn ?ytk ?ymo ?yno ?yn1 ?ykC
      all_goals first | k_is | skip
      case yno => (intro t ht; simp only [List.mem_cons, List.not_mem_nil, or_false] at ht; rcases ht with rfl | rfl | rfl | rfl | rfl | rfl | rfl <;> kernel_rfl)
      all_goals kernel_rfl
      : ∃ C B p ad fdd, Pr.ClaimF _ mg C B p ad fdd)
    obtain ⟨ctE, adE, fdE, Z⟩ := (by
      refine' Pr.errs_mk KX G ?aE0 ?lE0 ?rE0 ?sE0 ?xE0 ?tE0 ?kE0 ?iE0 ?uE0 ?nE0 ?lF0 ?lT0 ?cF0 ?kF0 ?gE0 ?hE0 ?dE0 ?oE0 ?mE0 ?no0 ?cn ?tk ?aT ?em0 ?kx0_0
      all_goals first | k_is | skip
      case no0 => (intro t ht; simp only [List.mem_cons, List.not_mem_nil, or_false] at ht; rcases ht with rfl | rfl | rfl | rfl | rfl | rfl | rfl <;> kernel_rfl)
      all_goals kernel_rfl
      : ∃ ct ad fdd, Pr.ErrsF _ mg ct ad fdd)
    obtain ⟨f0, g0, D0⟩ := (by refine' Pr.df_mk (x := "is_name") (qual := "is_name") (st := Pr.st_is_name) (ps := ["x"]) KX G ?a ?l ?c ?k (fun _ _ _ _ _ _ us hl => match us, hl with | [_], _ => rfl); (case a => k_is); (case l => k_is); (case c => k_is); (case k => k_is) : ∃ f fd, Pr.Df _ mg "is_name" "is_name" Pr.st_is_name f fd ["x"])
    obtain ⟨f1, g1, D1⟩ := (by refine' Pr.df_mk (x := "is_whole") (qual := "is_whole") (st := Pr.st_is_whole) (ps := ["x"]) KX G ?a ?l ?c ?k (fun _ _ _ _ _ _ us hl => match us, hl with | [_], _ => rfl); (case a => k_is); (case l => k_is); (case c => k_is); (case k => k_is) : ∃ f fd, Pr.Df _ mg "is_whole" "is_whole" Pr.st_is_whole f fd ["x"])
    obtain ⟨f2, g2, D2⟩ := (by refine' Pr.df_mk (x := "is_zero") (qual := "is_zero") (st := Pr.st_is_zero) (ps := ["x"]) KX G ?a ?l ?c ?k (fun _ _ _ _ _ _ us hl => match us, hl with | [_], _ => rfl); (case a => k_is); (case l => k_is); (case c => k_is); (case k => k_is) : ∃ f fd, Pr.Df _ mg "is_zero" "is_zero" Pr.st_is_zero f fd ["x"])
    obtain ⟨f3, g3, D3⟩ := (by refine' Pr.df_mk (x := "is_end") (qual := "is_end") (st := Pr.st_is_end) (ps := ["x"]) KX G ?a ?l ?c ?k (fun _ _ _ _ _ _ us hl => match us, hl with | [_], _ => rfl); (case a => k_is); (case l => k_is); (case c => k_is); (case k => k_is) : ∃ f fd, Pr.Df _ mg "is_end" "is_end" Pr.st_is_end f fd ["x"])
    obtain ⟨f4, g4, D4⟩ := (by refine' Pr.df_mk (x := "is_fact") (qual := "is_fact") (st := Pr.st_is_fact) (ps := ["x"]) KX G ?a ?l ?c ?k (fun _ _ _ _ _ _ us hl => match us, hl with | [_], _ => rfl); (case a => k_is); (case l => k_is); (case c => k_is); (case k => k_is) : ∃ f fd, Pr.Df _ mg "is_fact" "is_fact" Pr.st_is_fact f fd ["x"])
    obtain ⟨f5, g5, D5⟩ := (by refine' Pr.df_mk (x := "is_conflict") (qual := "is_conflict") (st := Pr.st_is_conflict) (ps := ["x"]) KX G ?a ?l ?c ?k (fun _ _ _ _ _ _ us hl => match us, hl with | [_], _ => rfl); (case a => k_is); (case l => k_is); (case c => k_is); (case k => k_is) : ∃ f fd, Pr.Df _ mg "is_conflict" "is_conflict" Pr.st_is_conflict f fd ["x"])
    obtain ⟨f6, g6, D6⟩ := (by refine' Pr.df_mk (x := "are_conflicts") (qual := "are_conflicts") (st := Pr.st_are_conflicts) (ps := ["x"]) KX G ?a ?l ?c ?k (fun _ _ _ _ _ _ us hl => match us, hl with | [_], _ => rfl); (case a => k_is); (case l => k_is); (case c => k_is); (case k => k_is) : ∃ f fd, Pr.Df _ mg "are_conflicts" "are_conflicts" Pr.st_are_conflicts f fd ["x"])
    obtain ⟨f8, g8, D8⟩ := (by refine' Pr.df_mk (x := "_law_refused") (qual := "_law_refused") (st := Pr.st__law_refused) (ps := ["_law_groups"]) KX G ?a ?l ?c ?k (fun _ _ _ _ _ _ us hl => match us, hl with | [_], _ => rfl); (case a => k_is); (case l => k_is); (case c => k_is); (case k => k_is) : ∃ f fd, Pr.Df _ mg "_law_refused" "_law_refused" Pr.st__law_refused f fd ["_law_groups"])
    obtain ⟨f9, g9, D9⟩ := (by refine' Pr.df_mk (x := "_law_purse") (qual := "_law_purse") (st := Pr.st__law_purse) (ps := ["_law_script", "_law_at"]) KX G ?a ?l ?c ?k (fun _ _ _ _ _ _ us hl => match us, hl with | [_, _], _ => rfl); (case a => k_is); (case l => k_is); (case c => k_is); (case k => k_is) : ∃ f fd, Pr.Df _ mg "_law_purse" "_law_purse" Pr.st__law_purse f fd ["_law_script", "_law_at"])
    obtain ⟨f10, g10, D10⟩ := (by refine' Pr.df_mk (x := "_law_mixed") (qual := "_law_mixed") (st := Pr.st__law_mixed) (ps := ["_law_seed", "_law_step"]) KX G ?a ?l ?c ?k (fun _ _ _ _ _ _ us hl => match us, hl with | [_, _], _ => rfl); (case a => k_is); (case l => k_is); (case c => k_is); (case k => k_is) : ∃ f fd, Pr.Df _ mg "_law_mixed" "_law_mixed" Pr.st__law_mixed f fd ["_law_seed", "_law_step"])
    obtain ⟨f11, g11, D11⟩ := (by refine' Pr.df_mk (x := "_law_draw") (qual := "_law_draw") (st := Pr.st__law_draw) (ps := ["_law_purse_here", "_law_many"]) KX G ?a ?l ?c ?k (fun _ _ _ _ _ _ us hl => match us, hl with | [_, _], _ => rfl); (case a => k_is); (case l => k_is); (case c => k_is); (case k => k_is) : ∃ f fd, Pr.Df _ mg "_law_draw" "_law_draw" Pr.st__law_draw f fd ["_law_purse_here", "_law_many"])
    obtain ⟨f12, g12, D12⟩ := (by refine' Pr.df_mk (x := "_law_name") (qual := "_law_name") (st := Pr.st__law_name) (ps := ["_law_purse_here", "_law_names"]) KX G ?a ?l ?c ?k (fun _ _ _ _ _ _ us hl => match us, hl with | [_, _], _ => rfl); (case a => k_is); (case l => k_is); (case c => k_is); (case k => k_is) : ∃ f fd, Pr.Df _ mg "_law_name" "_law_name" Pr.st__law_name f fd ["_law_purse_here", "_law_names"])
    obtain ⟨f13, g13, D13⟩ := (by refine' Pr.df_mk (x := "_law_number") (qual := "_law_number") (st := Pr.st__law_number) (ps := ["_law_purse_here"]) KX G ?a ?l ?c ?k (fun _ _ _ _ _ _ us hl => match us, hl with | [_], _ => rfl); (case a => k_is); (case l => k_is); (case c => k_is); (case k => k_is) : ∃ f fd, Pr.Df _ mg "_law_number" "_law_number" Pr.st__law_number f fd ["_law_purse_here"])
    obtain ⟨f14, g14, D14⟩ := (by refine' Pr.df_mk (x := "_law_facts") (qual := "_law_facts") (st := Pr.st__law_facts) (ps := ["_law_purse_here", "_law_ends"]) KX G ?a ?l ?c ?k (fun _ _ _ _ _ _ us hl => match us, hl with | [_, _], _ => rfl); (case a => k_is); (case l => k_is); (case c => k_is); (case k => k_is) : ∃ f fd, Pr.Df _ mg "_law_facts" "_law_facts" Pr.st__law_facts f fd ["_law_purse_here", "_law_ends"])
    obtain ⟨f15, g15, D15⟩ := (by refine' Pr.df_mk (x := "_law_copied") (qual := "_law_copied") (st := Pr.st__law_copied) (ps := ["_law_groups"]) KX G ?a ?l ?c ?k (fun _ _ _ _ _ _ us hl => match us, hl with | [_], _ => rfl); (case a => k_is); (case l => k_is); (case c => k_is); (case k => k_is) : ∃ f fd, Pr.Df _ mg "_law_copied" "_law_copied" Pr.st__law_copied f fd ["_law_groups"])
    obtain ⟨f17, g17, D17⟩ := (by refine' Pr.df_mk (x := "_law_spoil") (qual := "_law_spoil") (st := Pr.st__law_spoil) (ps := ["_law_groups"]) KX G ?a ?l ?c ?k (fun _ _ _ _ _ _ us hl => match us, hl with | [_], _ => rfl); (case a => k_is); (case l => k_is); (case c => k_is); (case k => k_is) : ∃ f fd, Pr.Df _ mg "_law_spoil" "_law_spoil" Pr.st__law_spoil f fd ["_law_groups"])
    obtain ⟨f19, g19, D19⟩ := (by refine' Pr.df_mk (x := "require_claim") (qual := "require_claim") (st := Pr.st_require_claim) (ps := ["claim"]) KX G ?a ?l ?c ?k (fun _ _ _ _ _ _ us hl => match us, hl with | [_], _ => rfl); (case a => k_is); (case l => k_is); (case c => k_is); (case k => k_is) : ∃ f fd, Pr.Df _ mg "require_claim" "require_claim" Pr.st_require_claim f fd ["claim"])
    obtain ⟨f21, g21, D21⟩ := (by refine' Pr.df_mk (x := "_law_joined") (qual := "_law_joined") (st := Pr.st__law_joined) (ps := ["_law_claim", "_law_second", "_law_due", "_law_other"]) KX G ?a ?l ?c ?k (fun _ _ _ _ _ _ us hl => match us, hl with | [_, _, _, _], _ => rfl); (case a => k_is); (case l => k_is); (case c => k_is); (case k => k_is) : ∃ f fd, Pr.Df _ mg "_law_joined" "_law_joined" Pr.st__law_joined f fd ["_law_claim", "_law_second", "_law_due", "_law_other"])
    obtain ⟨f22, g22, D22⟩ := (by refine' Pr.df_mk (x := "_law_odd_fact") (qual := "_law_odd_fact") (st := Pr.st__law_odd_fact) (ps := ["_law_purse_here", "_law_fact"]) KX G ?a ?l ?c ?k (fun _ _ _ _ _ _ us hl => match us, hl with | [_, _], _ => rfl); (case a => k_is); (case l => k_is); (case c => k_is); (case k => k_is) : ∃ f fd, Pr.Df _ mg "_law_odd_fact" "_law_odd_fact" Pr.st__law_odd_fact f fd ["_law_purse_here", "_law_fact"])
    obtain ⟨f23, g23, D23⟩ := (by refine' Pr.df_mk (x := "_law_spoilt") (qual := "_law_spoilt") (st := Pr.st__law_spoilt) (ps := ["_law_purse_here", "_law_groups"]) KX G ?a ?l ?c ?k (fun _ _ _ _ _ _ us hl => match us, hl with | [_, _], _ => rfl); (case a => k_is); (case l => k_is); (case c => k_is); (case k => k_is) : ∃ f fd, Pr.Df _ mg "_law_spoilt" "_law_spoilt" Pr.st__law_spoilt f fd ["_law_purse_here", "_law_groups"])
    obtain ⟨f24, g24, D24⟩ := (by refine' Pr.df_mk (x := "law") (qual := "law") (st := Pr.st_law) (ps := ["_law_script"]) KX G ?a ?l ?c ?k (fun _ _ _ _ _ _ us hl => match us, hl with | [_], _ => rfl); (case a => k_is); (case l => k_is); (case c => k_is); (case k => k_is) : ∃ f fd, Pr.Df _ mg "law" "law" Pr.st_law f fd ["_law_script"])
    have T := Pr.top_mk Y Z D0 D1 D2 D3 D4 D5 D6 D8 D9 D10 D11 D12 D13 D14 D15 D17 D19 D21 D22 D23 D24 (PySem.W.mg_none_of KX G (by k_is)) (PySem.W.mg_none_of KX G (by k_is)) (PySem.W.mg_none_of KX G (by k_is)) (PySem.W.mg_none_of KX G (by k_is)) (PySem.W.mg_none_of KX G (by k_is)) (PySem.W.mg_none_of KX G (by k_is)) (PySem.W.mg_none_of KX G (by k_is)) (PySem.W.mg_none_of KX G (by k_is)) (PySem.W.mg_none_of KX G (by k_is)) (PySem.W.mg_none_of KX G (by k_is)) (PySem.W.mg_none_of KX G (by k_is)) (PySem.W.mg_none_of KX G (by k_is)) ⟨_, PySem.W.mg_of KX G (by k_is)⟩
    have e : fa = f24 := by have e := hmg.symm.trans D24.mg; injection e with e; injection e
    subst e
    exact ⟨g24, Pr.bind_law D24.fn, fun base _ _ => Pr.law_ok T⟩
