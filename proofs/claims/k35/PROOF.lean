import PyProof.Rows.All
import Wide.All
import OpenK.AllK
import Wide.FinOn
import HandS.ForMost
import HandS.ForExc
import HandS.ExcCtx
import HandS.HotCalls
import HandS.Defaults
import HandS.Ends
import HandS.HeadEnd
import HandS.Style
import HandS.ExcInit
import HandS.MakeKwOnly
import HandS.MakeKw
import HandS.Zip
import HandS.OwnEq
import HandS.CallSlots
import HandS.SlotsOwn
import HandS.Property
import HandS.IsInst
import HandS.HeadHook1
import HandS.HeadHook2
import HandS.Deep
import HandS.DeepEq
import HandS.Wide
import HandS.Walk
import HandS.Flow
import HandS.Strs
import HandS.ExcInitHot
import KE.KExcIs
import HandS.ExcIs
import HandS.ExcField
import HandS.Exc
import HandS.Sort
import HandS.TryOnly
import HandS.TryMany
import KE.KOwnIter
import KE.KDictIter
import HandS.IterVal
import HandS.TupAny
import HandS.Head0
import HandS.Head1
import HandS.Head2
import HandS.EndBits
import PySem.Challenge.RW_greatestback_k35_back_and_forth
set_option Elab.async false
set_option linter.all false
set_option maxRecDepth 100000
set_option maxHeartbeats 4000000
namespace Den
open PySem PySem.Spec PyProof.Rows L2
abbrev Takes (X : Cx) (W : WX) : Prop := L2N.Takes X W
theorem tk0 {X : Cx} : Takes X (fun _ _ _ _ => False) := fun _ _ ⟨_, _, _, _, _, _, _, _, _, _, _, _, _, _, _, _, z⟩ => z.elim
theorem passAt {X : Cx} {W : WX} (tk : Takes X W) (σ : L2.St) : PassesAt (L2N.CX X.prog X.w) X σ (WE W σ) := L2N.passAt tk σ
theorem passL {X : Cx} : Passes (L2N.CX X.prog X.w) X E0 := fun _ _ _ _ _ _ _ h => by
  obtain ⟨_, _, _, _, _, _, _, _, _, _, _, _, z⟩ := h
  exact z.elim
inductive D where
  | exc (c : Str) (fs : List (Str × D)) | rng (lo hi : Int) | non | bl (b : Bool) | int (i : Int) | str (x : Str)
  | tup (xs : List D) | lst (xs : List D) | obj (c : Str) (fs : List (Str × D)) | sto | scr (ns : List Int)
structure SM where
  cs : List Int
  xs : List Int
inductive R (α : Type) where
  | ok (a : α) (m : SM)
  | err (c : Str) (fs : List (Str × D)) (m : SM)
  | bad
def M (α : Type) : Type := SM → R α
def M.ret {α : Type} (a : α) : M α := fun m => .ok a m
def M.bad {α : Type} : M α := fun _ => .bad
def M.thn {α β : Type} (x : M α) (f : α → M β) : M β := fun m => match x m with
  | .ok a m' => f a m'
  | .err c fs m' => .err c fs m'
  | .bad => .bad
instance : Monad M where
  pure := M.ret
  bind := M.thn
@[simp] theorem pure_run {α : Type} (a : α) (m : SM) : (pure a : M α) m = .ok a m := rfl
@[simp] theorem bind_run {α β : Type} (x : M α) (f : α → M β) (m : SM) : (x >>= f) m = match x m with
  | .ok a m' => f a m'
  | .err c fs m' => .err c fs m'
  | .bad => .bad := rfl
@[simp] theorem bad_run {α : Type} (m : SM) : (M.bad : M α) m = .bad := rfl
instance : LawfulMonad M := LawfulMonad.mk' (m := M)
  (id_map := fun x => by funext m; show (match x m with | .ok a m' => _ | .err c fs m' => _ | .bad => _) = x m; cases x m <;> rfl)
  (pure_bind := fun _ _ => rfl)
  (bind_assoc := fun x f g => by
    funext m
    show (match (match x m with | .ok a m' => f a m' | .err c fs m' => .err c fs m' | .bad => .bad) with | .ok a m' => g a m' | .err c fs m' => .err c fs m' | .bad => .bad) = (match x m with | .ok a m' => (match f a m' with | .ok a m' => g a m' | .err c fs m' => .err c fs m' | .bad => .bad) | .err c fs m' => .err c fs m' | .bad => .bad)
    cases x m <;> rfl)
/-- the exception that is handled, where one is -/
abbrev XI : Type := Option (Addr × Obj)
def _root_.L2.Cx.xi (X : L2.Cx) : XI := match X.A.handled with
  | none => none
  | some _ => X.pn.head?
theorem xi_none {X : L2.Cx} (h : X.A.handled = none) : X.xi = none := by unfold L2.Cx.xi; rw [h]
theorem xi_room {X : L2.Cx} {k : Nat} (hr : Room k X.A) : X.xi = none := xi_none hr.hd
/-- the store's place -/
structure Stx (xi : XI) where
  s : Option (Addr × Addr)
/-- a tuple whose object is known (it has no dict of its own) -/
def TupN (K : PySem.W.Frag) (H : Hp) (a : Addr) (vs : List V) : Prop := (∃ ob : Obj, H a = some (.frz ob (.tup vs)) ∧ ob.dict = none) ∨
  ∃ (o : Obj) (its : Array Value) (n : Nat), K.lookup a = some o ∧ o.cls = .type "tuple" ∧ o.dict = none ∧ o.data = .seq its n ∧ its.size ≤ sizeLine ∧ Vals vs its.toList
theorem TupN.sq {K : PySem.W.Frag} {H : Hp} {a : Addr} {vs : List V} (h : TupN K H a vs) : SqT K H a vs := by
  rcases h with ⟨ob, h, _⟩ | ⟨o, its, n, h1, h2, _, h3⟩
  · exact .inl (.inr ⟨ob, h⟩)
  · exact .inr ⟨o, its, n, h1, h2, h3⟩
theorem TupN.new {K : PySem.W.Frag} {H : Hp} {a : Addr} {vs : List V} {ob : Obj} (h : ob.dict = none) : TupN K (upd H a (.frz ob (.tup vs))) a vs := .inl ⟨ob, upd_same, h⟩
/-- a list that nobody changes -/
def Fz (K : PySem.W.Frag) (H : Hp) (a : Addr) (xs : List V) : Prop := (∃ o, H a = some (.frz o (.lst xs))) ∨ ∀ H', SqL K H' a xs
theorem Fz.sq {K : PySem.W.Frag} {H : Hp} {a : Addr} {xs : List V} (h : Fz K H a xs) : SqL K H a xs := by
  rcases h with ⟨o, h⟩ | h
  · exact .inl (.inr ⟨o, h⟩)
  · exact h H
theorem Fz.of {K : PySem.W.Frag} {H : Hp} {a : Addr} {xs : List V} (o : Only H) (h : SqL K H a xs) : Fz K H a xs := by
  rcases h with (h | h) | h
  · rcases o a with q | ⟨_, _, q⟩
    · rw [q] at h; cases h
    · rw [q] at h; cases h
  · exact .inl h
  · exact .inr fun _ => .inr h
section
variable (K : PySem.W.Frag) {xi : XI} (st : Stx xi) (S : Addr → Prop) (H : Hp)
mutual
inductive Rep : V → D → Prop
  | non : Rep .non .non
  | bl (b : Bool) : Rep (.bl b) (.bl b)
  | int (i : Int) : Rep (.int i) (.int i)
  | str (x : Str) : Rep (.str x) (.str x)
  | tup {a : Addr} {vs : List V} {ds : List D} : TupN K H a vs → RepL vs ds → Rep (.ref a) (.tup ds)
  | lst {a : Addr} {vs : List V} {ds : List D} : ¬ S a → H a = some (.lst vs) → RepL vs ds → Rep (.ref a) (.lst ds)
  | scr {a : Addr} {ns : List Int} : Fz K H a (ns.map V.int) → Rep (.ref a) (.scr ns)
  | obj {a dx : Addr} {c : Str} {fv : List (Str × V)} {fs : List (Str × D)} : ¬ S a → H a = some (.ins (He.ga K c) dx fv) → RepF fv fs → Rep (.ref a) (.obj c fs)
  | sto {a c : Addr} : st.s = some (a, c) → Rep (.ref a) .sto
  | rng {a : Addr} {lo hi : Int} : H a = some (.rng lo hi) → Rep (.ref a) (.rng lo hi)
  | exc {a dd : Addr} {oe : Obj} {c : Str} {fv : List (Str × V)} {fs : List (Str × D)} : xi = some (a, oe) → oe.cls = .ref (He.ga K c) → oe.dict = some dd → (∃ vs, oe.data = .fields vs) → H dd = some (.xd fv) → RepF fv fs → Rep (.ref a) (.exc c fs)
inductive RepL : List V → List D → Prop
  | nil : RepL [] []
  | cons {v : V} {d : D} {vs : List V} {ds : List D} : Rep v d → RepL vs ds → RepL (v :: vs) (d :: ds)
inductive RepF : List (Str × V) → List (Str × D) → Prop
  | nil : RepF [] []
  | cons {x : Str} {v : V} {d : D} {vs : List (Str × V)} {ds : List (Str × D)} : Rep v d → RepF vs ds → RepF ((x, v) :: vs) ((x, d) :: ds)
end
end
/-- what may have changed: only lists and instances at addresses of B -/
def isMut : HO → Bool
  | .lst _ => true
  | .ins _ _ _ => true
  | _ => false
def Chg (B : Addr → Prop) (H H' : Hp) : Prop := ∀ a o, H a = some o → H' a = some o ∨ (B a ∧ isMut o = true ∧ ∃ o', H' a = some o' ∧ isMut o' = true)
theorem Chg.refl {B : Addr → Prop} (H : Hp) : Chg B H H := fun _ _ h => .inl h
theorem Chg.trans {B : Addr → Prop} {H H1 H2 : Hp} (a : Chg B H H1) (b : Chg B H1 H2) : Chg B H H2 := fun x o h => by
  rcases a x o h with h1 | ⟨hb, hm, o1, h1, m1⟩
  · exact b x o h1
  · rcases b x o1 h1 with h2 | ⟨_, _, o2, h2, m2⟩
    · exact .inr ⟨hb, hm, o1, h2, m1⟩
    · exact .inr ⟨hb, hm, o2, h2, m2⟩
theorem Chg.mono {B B' : Addr → Prop} {H H' : Hp} (a : Chg B H H') (h : ∀ x, B x → B' x) : Chg B' H H' := fun x o e => by
  rcases a x o e with h1 | ⟨hb, r⟩
  · exact .inl h1
  · exact .inr ⟨h x hb, r⟩
theorem Chg.there {B : Addr → Prop} {H H' : Hp} (a : Chg B H H') {x : Addr} (h : H x ≠ none) : H' x ≠ none := by
  cases e : H x with
  | none => exact absurd e h
  | some o =>
    rcases a x o e with h1 | ⟨_, _, o', h1, _⟩
    · rw [h1]; simp
    · rw [h1]; simp
theorem Chg.free {B : Addr → Prop} {H H' : Hp} (a : Chg B H H') {x : Addr} (h : H' x = none) : H x = none := by
  cases e : H x with
  | none => rfl
  | some o => exact absurd h (a.there (by rw [e]; simp))
theorem Chg.keep {B : Addr → Prop} {H H' : Hp} (a : Chg B H H') {x : Addr} {o : HO} (h : H x = some o) (n : isMut o = false ∨ ¬ B x) : H' x = some o := by
  rcases a x o h with h1 | ⟨hb, hm, _⟩
  · exact h1
  · rcases n with n | n
    · rw [n] at hm; cases hm
    · exact absurd hb n
theorem Chg.new {B : Addr → Prop} {H : Hp} {p : Addr} {o : HO} (n : H p = none) : Chg B H (upd H p o) := fun x u h => .inl (by
  rw [upd_ne (ne_of_none h n)]; exact h)
theorem Chg.fz {K : PySem.W.Frag} {B : Addr → Prop} {H H' : Hp} (c : Chg B H H') {a : Addr} {xs : List V} (h : Fz K H a xs) : Fz K H' a xs := h.imp (fun ⟨o, z⟩ => ⟨o, c.keep z (.inl rfl)⟩) id
theorem Chg.tupN {K : PySem.W.Frag} {B : Addr → Prop} {H H' : Hp} (c : Chg B H H') {a : Addr} {vs : List V} (h : TupN K H a vs) : TupN K H' a vs := by
  rcases h with ⟨ob, h, d⟩ | h
  · exact .inl ⟨ob, c.keep h (.inl rfl), d⟩
  · exact .inr h
section
variable {K : PySem.W.Frag} {st : Stx xi} {S S' B : Addr → Prop} {H H' : Hp}
mutual
/-- stays, over changes within the places that it avoids; avoiding less -/
theorem Rep.mono (c : Chg B H H') (hB : ∀ a, B a → S a) (hS : ∀ a, S' a → S a) : ∀ {v : V} {d : D}, Rep K st S H v d → Rep K st S' H' v d
  | _, _, .non => .non
  | _, _, .bl b => .bl b
  | _, _, .int i => .int i
  | _, _, .str x => .str x
  | _, _, .tup h r => .tup (c.tupN h) (RepL.mono c hB hS r)
  | _, _, .lst n h r => .lst (fun z => n (hS _ z)) (c.keep h (.inr fun z => n (hB _ z))) (RepL.mono c hB hS r)
  | _, _, .scr h => .scr (h.imp (fun ⟨o, z⟩ => ⟨o, c.keep z (.inl rfl)⟩) id)
  | _, _, .obj n h r => .obj (fun z => n (hS _ z)) (c.keep h (.inr fun z => n (hB _ z))) (RepF.mono c hB hS r)
  | _, _, .sto h => .sto h
  | _, _, .rng h => .rng (c.keep h (.inl rfl))
  | _, _, .exc h1 h2 h3 h4 h r => .exc h1 h2 h3 h4 (c.keep h (.inl rfl)) (RepF.mono c hB hS r)
theorem RepL.mono (c : Chg B H H') (hB : ∀ a, B a → S a) (hS : ∀ a, S' a → S a) : ∀ {vs : List V} {ds : List D}, RepL K st S H vs ds → RepL K st S' H' vs ds
  | _, _, .nil => .nil
  | _, _, .cons h r => .cons (Rep.mono c hB hS h) (RepL.mono c hB hS r)
theorem RepF.mono (c : Chg B H H') (hB : ∀ a, B a → S a) (hS : ∀ a, S' a → S a) : ∀ {vs : List (Str × V)} {ds : List (Str × D)}, RepF K st S H vs ds → RepF K st S' H' vs ds
  | _, _, .nil => .nil
  | _, _, .cons h r => .cons (Rep.mono c hB hS h) (RepF.mono c hB hS r)
end
end
/-- no list, no instance, no store within -/
def D.flats : List D → Bool
  | [] => true
  | d :: ds => (match d with
    | .tup xs => D.flats xs
    | .lst _ => false
    | .obj _ _ => false
    | .exc _ _ => false
    | .sto => true
    | _ => true) && D.flats ds
def D.flat (d : D) : Bool := D.flats [d]
section
variable {K : PySem.W.Frag} {st : Stx xi} {S S' B : Addr → Prop} {H H' : Hp}
theorem flats_cons {d : D} {ds : List D} (h : D.flats (d :: ds) = true) : D.flat d = true ∧ D.flats ds = true := by
  unfold D.flat
  unfold D.flats at h
  obtain ⟨h1, h2⟩ := Bool.and_eq_true_iff.mp h
  refine ⟨?_, h2⟩
  unfold D.flats
  rw [h1]
  unfold D.flats
  rfl
mutual
theorem Rep.flat (c : Chg B H H') : ∀ {v : V} {d : D}, D.flat d = true → Rep K st S H v d → Rep K st S' H' v d
  | _, _, _, .non => .non
  | _, _, _, .bl b => .bl b
  | _, _, _, .int i => .int i
  | _, _, _, .str x => .str x
  | _, _, f, .tup h r => .tup (c.tupN h) (RepL.flat c (by
      unfold D.flat at f
      unfold D.flats at f
      exact (Bool.and_eq_true_iff.mp f).1) r)
  | _, _, f, .lst n h r => by unfold D.flat at f; unfold D.flats at f; cases f
  | _, _, f, .obj n h r => by unfold D.flat at f; unfold D.flats at f; cases f
  | _, _, _, .rng h => .rng (c.keep h (.inl rfl))
  | _, _, f, .exc _ _ _ _ _ _ => by unfold D.flat at f; unfold D.flats at f; cases f
  | _, _, _, .scr h => .scr (h.imp (fun ⟨o, z⟩ => ⟨o, c.keep z (.inl rfl)⟩) id)
  | _, _, _, .sto h => .sto h
theorem RepL.flat (c : Chg B H H') : ∀ {vs : List V} {ds : List D}, D.flats ds = true → RepL K st S H vs ds → RepL K st S' H' vs ds
  | _, _, _, .nil => .nil
  | _, _, f, .cons h r => .cons (Rep.flat c (flats_cons f).1 h) (RepL.flat c (flats_cons f).2 r)
end
theorem RepL.length {vs : List V} {ds : List D} (r : RepL K st S H vs ds) : vs.length = ds.length := by
  induction vs generalizing ds with
  | nil => cases r; rfl
  | cons v vs ih =>
    cases r with
    | cons h t => simp [ih t]
theorem RepL.get : ∀ {vs : List V} {ds : List D} {i : Nat} {d : D}, RepL K st S H vs ds → ds[i]? = some d → ∃ v, vs[i]? = some v ∧ Rep K st S H v d
  | _, _, 0, d, .cons h t, e => by simp at e; subst e; exact ⟨_, rfl, h⟩
  | _, _, i + 1, d, .cons h t, e => by
    obtain ⟨v, e1, r⟩ := RepL.get t (i := i) (by simpa using e)
    exact ⟨v, by simpa using e1, r⟩
  | _, _, _, d, .nil, e => by simp at e
theorem RepL.getV : ∀ {vs : List V} {ds : List D} {i : Nat} {v : V}, RepL K st S H vs ds → vs[i]? = some v → ∃ d, ds[i]? = some d ∧ Rep K st S H v d
  | _, _, 0, d, .cons h t, e => by simp at e; subst e; exact ⟨_, rfl, h⟩
  | _, _, i + 1, d, .cons h t, e => by
    obtain ⟨v, e1, r⟩ := RepL.getV t (i := i) (by simpa using e)
    exact ⟨v, by simpa using e1, r⟩
  | _, _, _, d, .nil, e => by simp at e
theorem RepL.append : ∀ {vs ws : List V} {ds es : List D}, RepL K st S H vs ds → RepL K st S H ws es → RepL K st S H (vs ++ ws) (ds ++ es)
  | _, _, _, _, .nil, s => s
  | _, _, _, _, .cons h t, s => .cons h (RepL.append t s)
theorem RepL.set {v : V} {d : D} (r : Rep K st S H v d) : ∀ {vs : List V} {ds : List D} (i : Nat), RepL K st S H vs ds → RepL K st S H (vs.set i v) (ds.set i d)
  | _, _, _, .nil => .nil
  | _, _, 0, .cons _ t => .cons r t
  | _, _, i + 1, .cons h t => .cons h (RepL.set r i t)
theorem RepL.take : ∀ {vs : List V} {ds : List D} (n : Nat), RepL K st S H vs ds → RepL K st S H (vs.take n) (ds.take n)
  | _, _, 0, _ => .nil
  | _, _, _ + 1, .nil => .nil
  | _, _, n + 1, .cons h t => .cons h (RepL.take n t)
theorem RepL.drop : ∀ {vs : List V} {ds : List D} (n : Nat), RepL K st S H vs ds → RepL K st S H (vs.drop n) (ds.drop n)
  | _, _, 0, r => r
  | _, _, _ + 1, .nil => .nil
  | _, _, n + 1, .cons _ t => RepL.drop n t
theorem RepF.get : ∀ {vs : List (Str × V)} {ds : List (Str × D)} {f : Str} {d : D}, RepF K st S H vs ds → ds.lookup f = some d → ∃ v, vs.lookup f = some v ∧ Rep K st S H v d
  | _, _, f, d, .cons (x := x) h t, e => by
    rw [List.lookup_cons] at e ⊢
    cases q : f == x with
    | true => rw [q] at e; simp at e; subst e; exact ⟨_, rfl, h⟩
    | false => rw [q] at e; simp only at e ⊢; exact RepF.get t e
  | _, _, f, d, .nil, e => by simp at e
theorem RepF.none : ∀ {vs : List (Str × V)} {ds : List (Str × D)} {f : Str}, RepF K st S H vs ds → ds.lookup f = Option.none → vs.lookup f = Option.none
  | _, _, f, .cons (x := x) h t, e => by
    rw [List.lookup_cons] at e ⊢
    cases q : f == x with
    | true => rw [q] at e; simp at e
    | false => rw [q] at e; simp only at e ⊢; exact RepF.none t e
  | _, _, f, .nil, e => rfl
end
/-- the store: at a a list of the cells' list (at c) and ints -/
structure StoAt (K : PySem.W.Frag) (S : Addr → Prop) (H : Hp) (a c : Addr) (m : SM) : Prop where
  sa : S a
  at_ : H a = some (.lst (.ref c :: m.xs.map V.int))
  cs : Fz K H c (m.cs.map V.int)
structure Cov (K : PySem.W.Frag) (st : Stx xi) (S : Addr → Prop) (H : Hp) (m : SM) : Prop where
  dom : ∀ a, S a → H a ≠ none
  sto : ∀ a c, st.s = some (a, c) → StoAt K S H a c m
/-- the address of the store -/
abbrev atSt (st : Stx xi) : Addr → Prop := fun a => ∃ c, st.s = some (a, c)
theorem Cov.sub {K : PySem.W.Frag} {st : Stx xi} {S : Addr → Prop} {H : Hp} {m : SM} (c : Cov K st S H m) : ∀ a, atSt st a → S a := fun a ⟨d, e⟩ => (c.sto a d e).sa
abbrev EV := List (Option D)
/-- an outcome is met -/
def Out (K : PySem.W.Frag) (st : Stx xi) (S : Addr → Prop) (H : Hp) (r : R D) (Q : VK) (E : XK) : Prop := match r with
  | .ok d m' => ∀ v H', Chg (atSt st) H H' → Cov K st S H' m' → Rep K st S H' v d → Q v H'
  | .err c fs m' => ∀ dd fv H', Chg (atSt st) H H' → Cov K st S H' m' → H' dd = some (.xd fv) → H dd = none → RepF K st S H' fv fs → E (.ref (He.ga K c)) (some dd) H'
  | .bad => False
/-- a def's promise, by its function -/
def spOf (K : PySem.W.Frag) (g : List D → M D) : Sp := fun vs H Q E => ∃ (st : Stx none) (S : Addr → Prop) (ds : List D) (m : SM), Cov K st S H m ∧ RepL K st S H vs ds ∧ Out K st S H (g ds m) Q E
structure EnvR (K : PySem.W.Frag) (st : Stx xi) (S : Addr → Prop) (H : Hp) (σ : L2.St) (ρ : EV) : Prop where
  at_ : ∀ (i : Nat) (d : D), ρ[i]? = some (some d) → ∃ v, σ[i]? = some (some v) ∧ Rep K st S H v d
def TE (xi : XI) (K : PySem.W.Frag) (W : WX) (F : EV → M D) : L2.TE := fun σ H Q => ∃ (st : Stx xi) (S : Addr → Prop) (ρ : EV) (m : SM), Cov K st S H m ∧ EnvR K st S H σ ρ ∧ Out K st S H (F ρ m) Q (WE W σ)
structure SE (X : Cx) (W : WX) (e : Expr) (F : EV → M D) : Prop where
  pe : PE X e (TE X.xi X.K W F)
theorem PE.imp {X : Cx} {e : Expr} {t t' : L2.TE} (h : PE X e t) (i : ∀ σ H Q, t' σ H Q → t σ H Q) : PE X e t' := ⟨fun pins s σ H Q I q => h.run pins s σ H Q I (i σ H Q q)⟩
theorem EnvR.mono {K : PySem.W.Frag} {st : Stx xi} {S B : Addr → Prop} {H H' : Hp} {σ : L2.St} {ρ : EV} (e : EnvR K st S H σ ρ) (c : Chg B H H') (hB : ∀ a, B a → S a) : EnvR K st S H' σ ρ := ⟨fun i d h => by
  obtain ⟨v, h1, r⟩ := e.at_ i d h
  exact ⟨v, h1, r.mono c hB fun _ z => z⟩⟩
theorem Out.chg {K : PySem.W.Frag} {st : Stx xi} {S : Addr → Prop} {H H1 : Hp} {r : R D} {Q : VK} {E : XK} (o : Out K st S H r Q E) (c : Chg (atSt st) H H1) : Out K st S H1 r Q E := by
  cases r with
  | ok d m' => exact fun v H' c' => o v H' (c.trans c')
  | err k fs m' => exact fun dd fv H' c' cv h1 h2 => o dd fv H' (c.trans c') cv h1 (c.free h2)
  | bad => exact o
/-- one expression, then the rest by values -/
theorem TE.bind {K : PySem.W.Frag} {W : WX} {F : EV → M D} {G : D → EV → M D} {σ : L2.St} {H : Hp} {Q : VK} {R : V → Hp → Prop} {st : Stx xi} {S : Addr → Prop} {ρ : EV} {m : SM}
    (cv : Cov K st S H m) (er : EnvR K st S H σ ρ) (o : Out K st S H ((F ρ >>= fun d => G d ρ) m) Q (WE W σ))
    (k : ∀ v d m1 H1, Chg (atSt st) H H1 → Cov K st S H1 m1 → EnvR K st S H1 σ ρ → Rep K st S H1 v d → Out K st S H1 (G d ρ m1) Q (WE W σ) → R v H1) : TE xi K W F σ H R := by
  refine ⟨st, S, ρ, m, cv, er, ?_⟩
  rw [bind_run] at o
  cases e : F ρ m with
  | ok d m1 =>
    rw [e] at o
    exact fun v H1 c cv1 r => k v d m1 H1 c cv1 (er.mono c cv.sub) r (Out.chg o c)
  | err c fs m1 =>
    rw [e] at o
    exact o
  | bad =>
    rw [e] at o
    exact o.elim
end Den
set_option Elab.async false
set_option linter.all false
set_option maxRecDepth 100000
set_option maxHeartbeats 4000000
namespace Den
open PySem PySem.Spec PyProof.Rows L2
def gVar (i : Nat) : EV → M D := fun ρ => match ρ[i]? with
  | some (some d) => pure d
  | _ => M.bad
section
variable {X : Cx} {W : WX} {pos : Pos}
theorem SE.imp {e : Expr} {F : EV → M D} {t : L2.TE} (h : PE X e t) (i : ∀ σ H Q, TE X.xi X.K W F σ H Q → t σ H Q) : SE X W e F := ⟨PE.imp h i⟩
theorem se_var {i : Nat} {x : Str} (h : PE X (.Name x pos) (tVar i)) : SE X W (.Name x pos) (gVar i) := by
  refine .imp h fun σ H Q ⟨st, S, ρ, m, cv, er, o⟩ => ?_
  unfold gVar at o
  cases e : ρ[i]? with
  | none => rw [e] at o; exact o.elim
  | some u =>
    cases u with
    | none => rw [e] at o; exact o.elim
    | some d =>
      rw [e] at o
      obtain ⟨v, h1, r⟩ := er.at_ i d e
      exact ⟨v, h1, o v H (Chg.refl H) cv r⟩
theorem se_con {e : Expr} {v : V} {d : D} (h : PE X e (tC v)) (r : ∀ {xi : XI} (st : Stx xi) S H, Rep X.K st S H v d) : SE X W e (fun _ => pure d) := by
  refine .imp h fun σ H Q ⟨st, S, ρ, m, cv, er, o⟩ => ?_
  exact o v H (Chg.refl H) cv (r st S H)
theorem se_int {i : Int} {j} : SE X W (.Constant (.int i) j pos) (fun _ => pure (.int i)) := se_con pe_int fun _ _ _ => .int i
theorem se_bl {b : Bool} {j} : SE X W (.Constant (.bool b) j pos) (fun _ => pure (.bl b)) := se_con pe_bl fun _ _ _ => .bl b
theorem se_non {j} : SE X W (.Constant .none j pos) (fun _ => pure .non) := se_con pe_non fun _ _ _ => .non
theorem se_str {x : Str} {j} : SE X W (.Constant (.str x) j pos) (fun _ => pure (.str x)) := se_con pe_str fun _ _ _ => .str x
/-- a rule by values, of two -/
def VR2 (K : PySem.W.Frag) (r : R2) (g : D → D → M D) : Prop := ∀ {xi : XI} (st : Stx xi) (S : Addr → Prop) (H : Hp) (m : SM) (x y : V) (dx dy : D) (Q : VK) (E : XK), Cov K st S H m → Rep K st S H x dx → Rep K st S H y dy → Out K st S H (g dx dy m) Q E → r x y H Q
def VRN (K : PySem.W.Frag) (r : R2) (g : D → D → M D) : Prop := ∀ (st : Stx none) (S : Addr → Prop) (H : Hp) (m : SM) (x y : V) (dx dy : D) (Q : VK) (E : XK), Cov K st S H m → Rep K st S H x dx → Rep K st S H y dy → Out K st S H (g dx dy m) Q E → r x y H Q
def VRL (K : PySem.W.Frag) (r : List V → Hp → VK → Prop) (g : List D → M D) : Prop := ∀ {xi : XI} (st : Stx xi) (S : Addr → Prop) (H : Hp) (m : SM) (xs : List V) (ds : List D) (Q : VK) (E : XK), Cov K st S H m → RepL K st S H xs ds → Out K st S H (g ds m) Q E → r xs H Q
theorem TE.bind2 {K : PySem.W.Frag} {Fa Fb : EV → M D} {g : D → D → M D} {r : R2} (hr : VR2 K r g) {σ : L2.St} {H : Hp} {Q : VK} (h : TE xi K W (fun ρ => do let x ← Fa ρ; let y ← Fb ρ; g x y) σ H Q) : tOp r (TE xi K W Fa) (TE xi K W Fb) σ H Q := by
  obtain ⟨st, S, ρ, m, cv, er, o⟩ := h
  refine TE.bind (G := fun x ρ => do let y ← Fb ρ; g x y) cv er o fun x dx m1 H1 c1 cv1 er1 rx o1 => ?_
  refine TE.bind (G := fun y ρ => g dx y) cv1 er1 o1 fun y dy m2 H2 c2 cv2 er2 ry o2 => ?_
  exact hr st S H2 m2 x y dx dy Q _ cv2 (rx.mono c2 cv1.sub fun _ z => z) ry o2
theorem TE.bind2N {K : PySem.W.Frag} {Fa Fb : EV → M D} {g : D → D → M D} {r : R2} (hr : VRN K r g) {σ : L2.St} {H : Hp} {Q : VK} (h : TE none K W (fun ρ => do let x ← Fa ρ; let y ← Fb ρ; g x y) σ H Q) : tOp r (TE none K W Fa) (TE none K W Fb) σ H Q := by
  obtain ⟨st, S, ρ, m, cv, er, o⟩ := h
  refine TE.bind (G := fun x ρ => do let y ← Fb ρ; g x y) cv er o fun x dx m1 H1 c1 cv1 er1 rx o1 => ?_
  refine TE.bind (G := fun y ρ => g dx y) cv1 er1 o1 fun y dy m2 H2 c2 cv2 er2 ry o2 => ?_
  exact hr st S H2 m2 x y dx dy Q _ cv2 (rx.mono c2 cv1.sub fun _ z => z) ry o2
theorem se_op {op : Operator} {r : R2} {a b : Expr} {Fa Fb : EV → M D} (g : D → D → M D) (ho : OpR X (binaryOp op) r) (hr : VR2 X.K r g) (ha : SE X W a Fa) (hb : SE X W b Fb) : SE X W (.BinOp a op b pos) (fun ρ => do let x ← Fa ρ; let y ← Fb ρ; g x y) :=
  .imp (pe_op ho ha.pe hb.pe) fun _ _ _ h => TE.bind2 hr h
theorem se_cmp {op : CmpOp} {r : R2} {a b : Expr} {Fa Fb : EV → M D} (g : D → D → M D) (ho : OpR X (compareOp op) r) (hr : VR2 X.K r g) (ha : SE X W a Fa) (hb : SE X W b Fb) (hm : behindInMarks op b = false) : SE X W (.Compare a [op] [b] pos) (fun ρ => do let x ← Fa ρ; let y ← Fb ρ; g x y) :=
  .imp (pe_cmpR ho ha.pe hb.pe hm) fun _ _ _ h => TE.bind2 hr h
theorem se_cmpN {op : CmpOp} {r : R2} {a b : Expr} {Fa Fb : EV → M D} (g : D → D → M D) (ho : OpR X (compareOp op) r) (h0 : X.xi = none) (hr : VRN X.K r g) (ha : SE X W a Fa) (hb : SE X W b Fb) (hm : behindInMarks op b = false) : SE X W (.Compare a [op] [b] pos) (fun ρ => do let x ← Fa ρ; let y ← Fb ρ; g x y) :=
  .imp (pe_cmpR ho ha.pe hb.pe hm) fun _ _ _ h => by rw [h0] at h ⊢; exact TE.bind2N hr h
theorem se_ix {r : R2} {a b : Expr} {Fa Fb : EV → M D} (g : D → D → M D) (ho : IxR X r) (hr : VR2 X.K r g) (ha : SE X W a Fa) (hb : SE X W b Fb) (hs : PlainIx b) : SE X W (.Subscript a b pos) (fun ρ => do let x ← Fa ρ; let y ← Fb ρ; g x y) :=
  .imp (pe_ix ho ha.pe hb.pe hs) fun _ _ _ h => TE.bind2 hr h
def OutB (K : PySem.W.Frag) (st : Stx xi) (S : Addr → Prop) (H : Hp) (r : R Bool) (Q : Bool → Hp → Prop) (E : XK) : Prop := match r with
  | .ok b m' => ∀ H', Chg (atSt st) H H' → Cov K st S H' m' → Q b H'
  | .err c fs m' => ∀ dd fv H', Chg (atSt st) H H' → Cov K st S H' m' → H' dd = some (.xd fv) → H dd = none → RepF K st S H' fv fs → E (.ref (He.ga K c)) (some dd) H'
  | .bad => False
def TT (xi : XI) (K : PySem.W.Frag) (W : WX) (C : EV → M Bool) : L2.TT := fun σ H Q => ∃ (st : Stx xi) (S : Addr → Prop) (ρ : EV) (m : SM), Cov K st S H m ∧ EnvR K st S H σ ρ ∧ OutB K st S H (C ρ m) Q (WE W σ)
structure ST (X : Cx) (W : WX) (e : Expr) (C : EV → M Bool) : Prop where
  pt : PT X e (TT X.xi X.K W C)
/-- for and, or -/
structure SW (X : Cx) (W : WX) (e : Expr) (C : EV → M Bool) : Prop where
  pw : PW X e (TT X.xi X.K W C)
theorem PT.imp {e : Expr} {t t' : L2.TT} (h : PT X e t) (i : ∀ σ H Q, t' σ H Q → t σ H Q) : PT X e t' := ⟨fun pins s σ H Q I q => h.run pins s σ H Q I (i σ H Q q)⟩
theorem PW.imp {e : Expr} {t t' : L2.TT} (h : PW X e t) (i : ∀ σ H Q, t' σ H Q → t σ H Q) : PW X e t' := ⟨fun wh pins s σ H Q I q => h.run wh pins s σ H Q I (i σ H Q q)⟩
theorem OutB.chg {K : PySem.W.Frag} {st : Stx xi} {S : Addr → Prop} {H H1 : Hp} {r : R Bool} {Q : Bool → Hp → Prop} {E : XK} (o : OutB K st S H r Q E) (c : Chg (atSt st) H H1) : OutB K st S H1 r Q E := by
  cases r with
  | ok d m' => exact fun H' c' => o H' (c.trans c')
  | err k fs m' => exact fun dd fv H' c' cv h1 h2 => o dd fv H' (c.trans c') cv h1 (c.free h2)
  | bad => exact o
/-- one test, then the rest of a test -/
theorem TT.bind {K : PySem.W.Frag} {C : EV → M Bool} {G : Bool → EV → M Bool} {σ : L2.St} {H : Hp} {Q R : Bool → Hp → Prop} {st : Stx xi} {S : Addr → Prop} {ρ : EV} {m : SM}
    (cv : Cov K st S H m) (er : EnvR K st S H σ ρ) (o : OutB K st S H ((C ρ >>= fun d => G d ρ) m) Q (WE W σ))
    (k : ∀ b m1 H1, Chg (atSt st) H H1 → Cov K st S H1 m1 → EnvR K st S H1 σ ρ → OutB K st S H1 (G b ρ m1) Q (WE W σ) → R b H1) : TT xi K W C σ H R := by
  refine ⟨st, S, ρ, m, cv, er, ?_⟩
  rw [bind_run] at o
  cases e : C ρ m with
  | ok b m1 =>
    rw [e] at o
    exact fun H1 c cv1 => k b m1 H1 c cv1 (er.mono c cv.sub) (OutB.chg o c)
  | err c fs m1 =>
    rw [e] at o
    exact o
  | bad =>
    rw [e] at o
    exact o.elim
/-- one test, then the rest of a value -/
theorem TT.bindE {K : PySem.W.Frag} {C : EV → M Bool} {G : Bool → EV → M D} {σ : L2.St} {H : Hp} {Q : VK} {R : Bool → Hp → Prop} {st : Stx xi} {S : Addr → Prop} {ρ : EV} {m : SM}
    (cv : Cov K st S H m) (er : EnvR K st S H σ ρ) (o : Out K st S H ((C ρ >>= fun d => G d ρ) m) Q (WE W σ))
    (k : ∀ b m1 H1, Chg (atSt st) H H1 → Cov K st S H1 m1 → EnvR K st S H1 σ ρ → Out K st S H1 (G b ρ m1) Q (WE W σ) → R b H1) : TT xi K W C σ H R := by
  refine ⟨st, S, ρ, m, cv, er, ?_⟩
  rw [bind_run] at o
  cases e : C ρ m with
  | ok b m1 =>
    rw [e] at o
    exact fun H1 c cv1 => k b m1 H1 c cv1 (er.mono c cv.sub) (Out.chg o c)
  | err c fs m1 =>
    rw [e] at o
    exact o
  | bad =>
    rw [e] at o
    exact o.elim
/-- one value, then the rest of a test -/
theorem TE.bindT {K : PySem.W.Frag} {F : EV → M D} {G : D → EV → M Bool} {σ : L2.St} {H : Hp} {Q : Bool → Hp → Prop} {R : V → Hp → Prop} {st : Stx xi} {S : Addr → Prop} {ρ : EV} {m : SM}
    (cv : Cov K st S H m) (er : EnvR K st S H σ ρ) (o : OutB K st S H ((F ρ >>= fun d => G d ρ) m) Q (WE W σ))
    (k : ∀ v d m1 H1, Chg (atSt st) H H1 → Cov K st S H1 m1 → EnvR K st S H1 σ ρ → Rep K st S H1 v d → OutB K st S H1 (G d ρ m1) Q (WE W σ) → R v H1) : TE xi K W F σ H R := by
  refine ⟨st, S, ρ, m, cv, er, ?_⟩
  rw [bind_run] at o
  cases e : F ρ m with
  | ok d m1 =>
    rw [e] at o
    exact fun v H1 c cv1 r => k v d m1 H1 c cv1 (er.mono c cv.sub) r (OutB.chg o c)
  | err c fs m1 =>
    rw [e] at o
    exact o
  | bad =>
    rw [e] at o
    exact o.elim
def asB : D → M Bool
  | .bl b => pure b
  | _ => M.bad
/-- truth -/
def dTru : D → M Bool
  | .non => pure false
  | .bl b => pure b
  | .int i => pure (i != 0)
  | .str y => if y.length ≤ sizeLine then pure ((y.length : Int) != 0) else M.bad
  | .tup xs => pure (!xs.isEmpty)
  | .lst xs => pure (!xs.isEmpty)
  | _ => M.bad
theorem isEmpty_rep {K : PySem.W.Frag} {st : Stx xi} {S : Addr → Prop} {H : Hp} {vs : List V} {ds : List D} (r : RepL K st S H vs ds) : vs.isEmpty = ds.isEmpty := by
  cases r <;> rfl
theorem dTru_ok {K : PySem.W.Frag} {st : Stx xi} {S : Addr → Prop} {H : Hp} {m m' : SM} {x : V} {d : D} {b : Bool} (r : Rep K st S H x d) (e : dTru d m = .ok b m') : TruV K x H b ∧ m' = m := by
  cases r with
  | non => cases e; exact ⟨rfl, rfl⟩
  | bl b => cases e; exact ⟨rfl, rfl⟩
  | int i => cases e; exact ⟨rfl, rfl⟩
  | str y =>
    have e' : (if y.length ≤ sizeLine then pure ((y.length : Int) != 0) else M.bad : M Bool) m = .ok b m' := e
    by_cases z : y.length ≤ sizeLine
    · rw [if_pos z] at e'; cases e'; exact ⟨⟨z, rfl⟩, rfl⟩
    · rw [if_neg z] at e'; cases e'
  | tup h r => cases e; exact ⟨.inr (.inl ⟨_, h.sq, by rw [isEmpty_rep r]⟩), rfl⟩
  | lst n h r => cases e; exact ⟨.inl ⟨_, SqL.of h, by rw [isEmpty_rep r]⟩, rfl⟩
  | obj _ _ _ => cases e
  | sto _ => cases e
  | exc _ _ _ _ _ _ => cases e
  | rng _ => cases e
  | scr _ => cases e
theorem dTru_run (d : D) (m : SM) : (∃ b, dTru d m = .ok b m) ∨ dTru d m = .bad := by
  cases d with
  | str y =>
    show (∃ b, (if y.length ≤ sizeLine then pure ((y.length : Int) != 0) else M.bad : M Bool) m = .ok b m) ∨ (if y.length ≤ sizeLine then pure ((y.length : Int) != 0) else M.bad : M Bool) m = .bad
    by_cases z : y.length ≤ sizeLine
    · rw [if_pos z]; exact .inl ⟨_, rfl⟩
    · rw [if_neg z]; exact .inr rfl
  | _ => first | exact .inl ⟨_, rfl⟩ | exact .inr rfl
/-- a value's truth as a test -/
theorem st_tru {e : Expr} {F : EV → M D} (ha : SE X W e F) (he : ∀ whole, isTrue e X.env whole = (do let v ← whole; standAt e.pos; holding [v] (truthy v))) : ST X W e (fun ρ => do let x ← F ρ; dTru x) := by
  refine ⟨PT.imp (pt_truth ha.pe he) fun σ H Q ⟨st, S, ρ, m, cv, er, o⟩ => ?_⟩
  refine TE.bindT (G := fun d _ => dTru d) cv er o fun v d m1 H1 c1 cv1 er1 r o1 => ?_
  rcases dTru_run d m1 with ⟨b, e1⟩ | e1
  · rw [e1] at o1
    exact ⟨b, (dTru_ok r e1).1, o1 H1 (Chg.refl _) cv1⟩
  · rw [e1] at o1; exact o1.elim
/-- a comparison as a test -/
theorem st_cmp {op : CmpOp} {r : R2} {a b : Expr} {Fa Fb : EV → M D} (g : D → D → M D) (ho : OpR X (compareOp op) r) (hr : VR2 X.K r g) (ha : SE X W a Fa) (hb : SE X W b Fb) (hm : behindInMarks op b = false) :
    ST X W (.Compare a [op] [b] pos) (fun ρ => do let x ← Fa ρ; let y ← Fb ρ; let z ← g x y; asB z) := by
  refine ⟨PT.imp (pt_cmpR ho ha.pe hb.pe hm) fun σ H Q ⟨st, S, ρ, m, cv, er, o⟩ => ?_⟩
  refine TE.bindT (G := fun x ρ => do let y ← Fb ρ; let z ← g x y; asB z) cv er o fun x dx m1 H1 c1 cv1 er1 rx o1 => ?_
  refine TE.bindT (G := fun y ρ => do let z ← g dx y; asB z) cv1 er1 o1 fun y dy m2 H2 c2 cv2 er2 ry o2 => ?_
  refine hr st S H2 m2 x y dx dy _ (WE W σ) cv2 (rx.mono c2 cv1.sub fun _ z => z) ry ?_
  rw [bind_run] at o2
  cases e : g dx dy m2 with
  | ok d m3 =>
    rw [e] at o2
    intro v H3 c3 cv3 r3
    cases r3 with
    | bl b => exact ⟨b, rfl, o2 H3 c3 cv3⟩
    | _ => exact o2.elim
  | err c fs m3 =>
    rw [e] at o2
    exact o2
  | bad => rw [e] at o2; exact o2.elim
theorem st_not {a : Expr} {C : EV → M Bool} (ha : ST X W a C) : ST X W (.UnaryOp .Not a pos) (fun ρ => do let b ← C ρ; pure (!b)) := by
  refine ⟨PT.imp (pt_not ha.pt) fun σ H Q ⟨st, S, ρ, m, cv, er, o⟩ => ?_⟩
  exact TT.bind (G := fun b _ => pure (!b)) cv er o fun b m1 H1 c1 cv1 er1 o1 => o1 H1 (Chg.refl _) cv1
theorem sw_and1 {a : Expr} {C : EV → M Bool} (ha : ST X W a C) : SW X W (.BoolOp .And [a] pos) C := ⟨pw_and1 ha.pt⟩
theorem sw_or1 {a : Expr} {C : EV → M Bool} (ha : ST X W a C) : SW X W (.BoolOp .Or [a] pos) C := ⟨pw_or1 ha.pt⟩
theorem sw_and {a b : Expr} {rest : List Expr} {C C' : EV → M Bool} (ha : ST X W a C) (hb : SW X W (.BoolOp .And (b :: rest) pos) C') : SW X W (.BoolOp .And (a :: b :: rest) pos) (fun ρ => do let x ← C ρ; if x = true then C' ρ else pure false) := by
  refine ⟨PW.imp (pw_and ha.pt hb.pw) fun σ H Q ⟨st, S, ρ, m, cv, er, o⟩ => ?_⟩
  refine TT.bind (G := fun x ρ => if x = true then C' ρ else pure false) cv er o fun b m1 H1 c1 cv1 er1 o1 => ?_
  cases b with
  | true => exact ⟨st, S, ρ, m1, cv1, er1, o1⟩
  | false => exact o1 H1 (Chg.refl _) cv1
theorem sw_or {a b : Expr} {rest : List Expr} {C C' : EV → M Bool} (ha : ST X W a C) (hb : SW X W (.BoolOp .Or (b :: rest) pos) C') : SW X W (.BoolOp .Or (a :: b :: rest) pos) (fun ρ => do let x ← C ρ; if x = true then pure true else C' ρ) := by
  refine ⟨PW.imp (pw_or ha.pt hb.pw) fun σ H Q ⟨st, S, ρ, m, cv, er, o⟩ => ?_⟩
  refine TT.bind (G := fun x ρ => if x = true then pure true else C' ρ) cv er o fun b m1 H1 c1 cv1 er1 o1 => ?_
  cases b with
  | false => exact ⟨st, S, ρ, m1, cv1, er1, o1⟩
  | true => exact o1 H1 (Chg.refl _) cv1
theorem se_one {op} {a : Expr} {F : EV → M D} (ha : SE X W a F) : SE X W (.BoolOp op [a] pos) F := ⟨pe_one ha.pe⟩
theorem se_and {a b : Expr} {rest : List Expr} {F F' : EV → M D} (ha : SE X W a F) (hb : SE X W (.BoolOp .And (b :: rest) pos) F') : SE X W (.BoolOp .And (a :: b :: rest) pos) (fun ρ => do let x ← F ρ; let b ← dTru x; if b = true then F' ρ else pure x) := by
  refine .imp (pe_andT ha.pe hb.pe) fun σ H Q ⟨st, S, ρ, m, cv, er, o⟩ => ?_
  refine TE.bind (G := fun x ρ => do let b ← dTru x; if b = true then F' ρ else pure x) cv er o fun v d m1 H1 c1 cv1 er1 r o1 => ?_
  rw [bind_run] at o1
  rcases dTru_run d m1 with ⟨b, e1⟩ | e1
  · rw [e1] at o1
    refine ⟨b, (dTru_ok r e1).1, ?_⟩
    cases b with
    | true => exact ⟨st, S, ρ, m1, cv1, er1, o1⟩
    | false => exact o1 v H1 (Chg.refl _) cv1 r
  · rw [e1] at o1; exact o1.elim
theorem se_or {a b : Expr} {rest : List Expr} {F F' : EV → M D} (ha : SE X W a F) (hb : SE X W (.BoolOp .Or (b :: rest) pos) F') : SE X W (.BoolOp .Or (a :: b :: rest) pos) (fun ρ => do let x ← F ρ; let b ← dTru x; if b = true then pure x else F' ρ) := by
  refine .imp (pe_orT ha.pe hb.pe) fun σ H Q ⟨st, S, ρ, m, cv, er, o⟩ => ?_
  refine TE.bind (G := fun x ρ => do let b ← dTru x; if b = true then pure x else F' ρ) cv er o fun v d m1 H1 c1 cv1 er1 r o1 => ?_
  rw [bind_run] at o1
  rcases dTru_run d m1 with ⟨b, e1⟩ | e1
  · rw [e1] at o1
    refine ⟨b, (dTru_ok r e1).1, ?_⟩
    cases b with
    | false => exact ⟨st, S, ρ, m1, cv1, er1, o1⟩
    | true => exact o1 v H1 (Chg.refl _) cv1 r
  · rw [e1] at o1; exact o1.elim
theorem se_not {a : Expr} {F : EV → M D} (ha : SE X W a F) : SE X W (.UnaryOp .Not a pos) (fun ρ => do let x ← F ρ; let b ← dTru x; pure (.bl (!b))) := by
  refine .imp (pe_notT ha.pe) fun σ H Q ⟨st, S, ρ, m, cv, er, o⟩ => ?_
  refine TE.bind (G := fun x ρ => do let b ← dTru x; pure (.bl (!b))) cv er o fun v d m1 H1 c1 cv1 er1 r o1 => ?_
  rw [bind_run] at o1
  rcases dTru_run d m1 with ⟨b, e1⟩ | e1
  · rw [e1] at o1
    exact ⟨b, (dTru_ok r e1).1, o1 _ H1 (Chg.refl _) cv1 (.bl _)⟩
  · rw [e1] at o1; exact o1.elim
theorem se_ifx {c a b : Expr} {C : EV → M Bool} {Fa Fb : EV → M D} (hc : ST X W c C) (ha : SE X W a Fa) (hb : SE X W b Fb) : SE X W (.IfExp c a b pos) (fun ρ => do let x ← C ρ; if x = true then Fa ρ else Fb ρ) := by
  refine .imp (pe_ifExp hc.pt ha.pe hb.pe) fun σ H Q ⟨st, S, ρ, m, cv, er, o⟩ => ?_
  refine TT.bindE (G := fun x ρ => if x = true then Fa ρ else Fb ρ) cv er o fun b m1 H1 c1 cv1 er1 o1 => ?_
  cases b with
  | true => exact ⟨st, S, ρ, m1, cv1, er1, o1⟩
  | false => exact ⟨st, S, ρ, m1, cv1, er1, o1⟩
/-- a op b op2 c -/
theorem se_chain {op op' : CmpOp} {r r' : R2} {a b c : Expr} {Fa Fb Fc : EV → M D} (g g' : D → D → M D) (ho : OpR X (compareOp op) r) (hr : VR2 X.K r g) (ho' : OpR X (compareOp op') r') (hr' : VR2 X.K r' g') (ha : SE X W a Fa) (hb : SE X W b Fb) (hc : SE X W c Fc)
    (pe : ∀ {ta tb tc : L2.TE}, PE X a ta → PE X b tb → PE X c tc → PE X (.Compare a [op, op'] [b, c] pos) (tChain r r' ta tb tc)) :
    SE X W (.Compare a [op, op'] [b, c] pos) (fun ρ => do let x ← Fa ρ; let y ← Fb ρ; let z ← g x y; let k ← asB z; if k = true then (do let u ← Fc ρ; g' y u) else pure (.bl false)) := by
  refine .imp (pe ha.pe hb.pe hc.pe) fun σ H Q ⟨st, S, ρ, m, cv, er, o⟩ => ?_
  refine TE.bind (G := fun x ρ => do let y ← Fb ρ; let z ← g x y; let k ← asB z; if k = true then (do let u ← Fc ρ; g' y u) else pure (.bl false)) cv er o fun x dx m1 H1 c1 cv1 er1 rx o1 => ?_
  refine TE.bind (G := fun y ρ => do let z ← g dx y; let k ← asB z; if k = true then (do let u ← Fc ρ; g' y u) else pure (.bl false)) cv1 er1 o1 fun y dy m2 H2 c2 cv2 er2 ry o2 => ?_
  refine hr st S H2 m2 x y dx dy _ (WE W σ) cv2 (rx.mono c2 cv1.sub fun _ z => z) ry ?_
  rw [bind_run] at o2
  cases e : g dx dy m2 with
  | ok d m3 =>
    rw [e] at o2
    intro v H3 c3 cv3 r3
    cases r3 with
    | bl b =>
      refine ⟨b, rfl, ?_⟩
      cases b with
      | true =>
        refine TE.bind (G := fun u _ => g' dy u) cv3 ((er2.mono c3 cv2.sub)) (Out.chg o2 c3) fun u du m4 H4 c4 cv4 er4 ru o4 => ?_
        exact hr' st S H4 m4 y u dy du Q _ cv4 ((ry.mono c3 cv2.sub fun _ z => z).mono c4 cv3.sub fun _ z => z) ru o4
      | false => exact o2 _ H3 c3 cv3 (.bl _)
    | _ => exact o2.elim
  | err c fs m3 =>
    rw [e] at o2
    exact o2
  | bad => rw [e] at o2; exact o2.elim
end
end Den
set_option Elab.async false
set_option linter.all false
set_option maxRecDepth 100000
set_option maxHeartbeats 4000000
namespace Den
open PySem PySem.Spec PyProof.Rows L2
section
variable {K : PySem.W.Frag}
theorem Cov.keep {st : Stx xi} {S B : Addr → Prop} {H H' : Hp} {m : SM} (cv : Cov K st S H m) (c : Chg B H H') (n : ∀ a, B a → ¬ S a) : Cov K st S H' m := by
  refine ⟨fun a h => c.there (cv.dom a h), fun a d e => ?_⟩
  have q := cv.sto a d e
  exact ⟨q.sa, c.keep q.at_ (.inr fun z => n a z q.sa), c.fz q.cs⟩
/-- avoiding more, or less, as it was said before -/
theorem Cov.swap {st : Stx xi} {S S' B : Addr → Prop} {H H' : Hp} {m m' : SM} (cv : Cov K st S H m) (c : Chg B H H') (cv' : Cov K st S' H' m') : Cov K st S H' m' := by
  refine ⟨fun a h => c.there (cv.dom a h), fun a d e => ?_⟩
  have q := cv.sto a d e
  have q' := cv'.sto a d e
  exact ⟨q.sa, q'.at_, q'.cs⟩
theorem Cov.wide {st : Stx xi} {S S' : Addr → Prop} {H : Hp} {m : SM} (cv : Cov K st S H m) (h : ∀ a, S a → S' a) (d : ∀ a, S' a → H a ≠ none) : Cov K st S' H m :=
  ⟨d, fun a c e => by
    have q := cv.sto a c e
    exact ⟨h _ q.sa, q.at_, q.cs⟩⟩
theorem Chg.write {H : Hp} {p : Addr} {o o' : HO} (h : H p = some o) (m : isMut o = true) (m' : isMut o' = true) : Chg (fun a => a = p) H (upd H p o') := fun a u e => by
  by_cases hp : a = p
  · subst hp
    rw [h] at e; cases e
    exact .inr ⟨rfl, m, o', upd_same, m'⟩
  · exact .inl (by rw [upd_ne hp]; exact e)
section
variable {st : Stx xi} {S S' : Addr → Prop} {H : Hp}
mutual
/-- avoiding what is not there -/
theorem Rep.wide (h : ∀ a, S' a → S a ∨ H a = none) : ∀ {v : V} {d : D}, Rep K st S H v d → Rep K st S' H v d
  | _, _, .non => .non
  | _, _, .bl b => .bl b
  | _, _, .int i => .int i
  | _, _, .str x => .str x
  | _, _, .tup e r => .tup e (RepL.wide h r)
  | _, _, .lst n e r => .lst (fun z => (h _ z).elim n fun q => by rw [e] at q; cases q) e (RepL.wide h r)
  | _, _, .obj n e r => .obj (fun z => (h _ z).elim n fun q => by rw [e] at q; cases q) e (RepF.wide h r)
  | _, _, .sto e => .sto e
  | _, _, .scr e => .scr e
  | _, _, .exc h1 h2 h3 h4 e r => .exc h1 h2 h3 h4 e (RepF.wide h r)
  | _, _, .rng e => .rng e
theorem RepL.wide (h : ∀ a, S' a → S a ∨ H a = none) : ∀ {vs : List V} {ds : List D}, RepL K st S H vs ds → RepL K st S' H vs ds
  | _, _, .nil => .nil
  | _, _, .cons r t => .cons (Rep.wide h r) (RepL.wide h t)
theorem RepF.wide (h : ∀ a, S' a → S a ∨ H a = none) : ∀ {vs : List (Str × V)} {ds : List (Str × D)}, RepF K st S H vs ds → RepF K st S' H vs ds
  | _, _, .nil => .nil
  | _, _, .cons r t => .cons (Rep.wide h r) (RepF.wide h t)
end
theorem EnvR.wide {σ : L2.St} {ρ : EV} (h : ∀ a, S' a → S a ∨ H a = none) (e : EnvR K st S H σ ρ) : EnvR K st S' H σ ρ := ⟨fun i d q => by
  obtain ⟨v, h1, r⟩ := e.at_ i d q
  exact ⟨v, h1, r.wide h⟩⟩
end
abbrev noB : Addr → Prop := fun _ => False
theorem Cov.new {st : Stx xi} {S : Addr → Prop} {H : Hp} {m : SM} {p : Addr} {o : HO} (cv : Cov K st S H m) (n : H p = none) : Cov K st S (upd H p o) m := cv.keep (B := noB) (Chg.new n) fun _ z => z.elim
theorem Cov.out {st : Stx xi} {S : Addr → Prop} {H : Hp} {m : SM} {p : Addr} (cv : Cov K st S H m) (n : H p = none) : ¬ S p := fun z => cv.dom p z n
theorem Rep.new {st : Stx xi} {S : Addr → Prop} {H : Hp} {p : Addr} {o : HO} {v : V} {d : D} (r : Rep K st S H v d) (n : H p = none) : Rep K st S (upd H p o) v d := r.mono (B := noB) (Chg.new n) (fun _ z => z.elim) fun _ z => z
theorem RepL.new {st : Stx xi} {S : Addr → Prop} {H : Hp} {p : Addr} {o : HO} {v : List V} {d : List D} (r : RepL K st S H v d) (n : H p = none) : RepL K st S (upd H p o) v d := r.mono (B := noB) (Chg.new n) (fun _ z => z.elim) fun _ z => z
/-- the end of a pure rule -/
theorem out_pure {st : Stx xi} {S : Addr → Prop} {H : Hp} {m : SM} {v : V} {d : D} {Q : VK} {E : XK} (cv : Cov K st S H m) (o : Out K st S H ((pure d : M D) m) Q E) (r : Rep K st S H v d) : Q v H := o v H (Chg.refl H) cv r
theorem out_tup {st : Stx xi} {S : Addr → Prop} {H : Hp} {m : SM} {vs : List V} {ds : List D} {Q : VK} {E : XK} (cv : Cov K st S H m) (o : Out K st S H ((pure (.tup ds) : M D) m) Q E) (r : RepL K st S H vs ds) : ∀ (p : Addr) (ob : Obj), H p = none → ob.dict = none → Q (.ref p) (upd H p (.frz ob (.tup vs))) :=
  fun p ob n d => o _ _ (Chg.new n) (cv.new n) (.tup (TupN.new d) (r.new n))
/-- a new tuple, its object known -/
theorem tup_laid {X : Cx} {pins : List (Addr × Obj)} {σ : L2.St} {H : Hp} {s : Shared} {us : List Value} {vs : List V} {Q : VK} {h' : Heap} (I : Inv X pins σ H s) (r : Vals vs us) (hz : vs.length ≤ sizeLine) (kp : ∀ b o, s.heap.get? b = some o → h'.get? b = some o)
    (q : ∀ (p : Addr) (ob : Obj), H p = none → ob.dict = none → Q (.ref p) (upd H p (.frz ob (.tup vs)))) : EP X pins σ Q (.ref h'.objs.size) { s with heap := h'.push { cls := .type "tuple", data := .seq us.toArray } } := by
  have I1 : Inv X pins σ H { s with heap := h' } := I.kept (t' := s.toks) kp
  have hn : H h'.objs.size = none := I1.hok.fresh (Nat.le_refl _)
  have at_ : (h'.push { cls := .type "tuple", data := .seq us.toArray }).get? h'.objs.size = some { cls := .type "tuple", data := .seq us.toArray } := Heap.get?_push_size _ rfl
  refine ⟨.ref h'.objs.size, _, I1.laid (t' := s.toks) (o := .frz { cls := .type "tuple", data := .seq us.toArray } (.tup vs)) (fun b u e => Heap.get?_push_of_some _ e) (Nat.le_refl _) ⟨at_, hz, us, r, _, at_, rfl, _, rfl⟩, rfl, q _ _ hn rfl⟩
def rCatN (K : PySem.W.Frag) : R2 := fun x y H Q => ∃ a b xs ys, x = .ref a ∧ y = .ref b ∧ SqT K H a xs ∧ SqT K H b ys ∧ xs ≠ [] ∧ xs.length + ys.length ≤ sizeLine ∧
  (ys = [] → Q (.ref a) H) ∧ (ys ≠ [] → ∀ (p : Addr) (ob : Obj), H p = none → ob.dict = none → Q (.ref p) (upd H p (.frz ob (.tup (xs ++ ys)))))
theorem op_catN {X : Cx} : OpR X (binaryOp .Add) (rCatN X.K) := by
  intro pins s σ H x y v u Q I rx ry ⟨a, b, xs, ys, ex, ey, ha, hb, hx, hz, q1, q2⟩
  subst ex ey
  obtain rfl : v = Value.ref a := rx
  obtain rfl : u = Value.ref b := ry
  obtain ⟨its, r1, t1, _⟩ := I.tuple ha
  obtain ⟨its2, r2, t2, _⟩ := I.tuple hb
  refine HT.cat_tup t1 t2 (fun z => hx (r1.nil_iff.mp z)) (fun z => ⟨.ref a, H, I, rfl, q1 (r2.nil_iff.mp z)⟩) (fun z => ?_) (by rw [← r1.length, ← r2.length]; exact hz)
  exact tup_laid (h' := s.heap) I (r1.append r2) (by rw [List.length_append]; exact hz) (fun _ _ e => e) (q2 fun w => z (r2.nil_iff.mpr w))
def rTupN (K : PySem.W.Frag) : List V → Hp → VK → Prop := fun xs H Q => ∃ p ys, xs = [.ref p] ∧ ((SqL K H p ys ∧ ∀ (l : Addr) (ob : Obj), H l = none → ob.dict = none → Q (.ref l) (upd H l (.frz ob (.tup ys)))) ∨ (SqT K H p ys ∧ Q (.ref p) H))
theorem call_tupN {X : Cx} : CallR X (.type "tuple") (rTupN X.K) := by
  intro pins s σ H xs us Q I r ⟨p, ys, ex, h⟩
  subst ex
  obtain ⟨u, rfl, rx⟩ := vals1 r
  obtain rfl : u = Value.ref p := rx
  rcases h with ⟨hq, q⟩ | ⟨hq, q⟩
  · obtain ⟨its, rv, pl, hz⟩ := I.list hq
    have hl := rv.length
    refine call_tuple_list pl.isList (fun h' kp => tup_laid I rv hz kp q) (by simp only [List.size_toArray]; omega)
  · obtain ⟨its, rv, pl, hz⟩ := I.tuple hq
    exact call_tuple_same pl ⟨.ref p, H, I, rfl, q⟩
def tTupN (t : L2.TA) : L2.TE := fun σ H Q => t σ H fun xs H1 => xs.length ≤ sizeLine ∧ ∀ (p : Addr) (ob : Obj), H1 p = none → ob.dict = none → Q (.ref p) (upd H1 p (.frz ob (.tup xs)))
theorem pe_tupN {X : Cx} {es : List Expr} {pos : Pos} {t : L2.TA} {x1} (h : PA X es t) : PE X (.Tuple es x1 pos) (tTupN t) := by
  refine ⟨fun pins s σ H Q I hq => wpAny_Tuple_spliced (thn (h.run pos pins s σ H _ I hq) fun us s1 ⟨xs, H1, I1, r, z, q⟩ => ⟨by rw [← r.length]; exact z, ?_⟩)⟩
  exact tup_laid (h' := s1.heap) I1 r z (fun _ _ e => e) q
theorem out_lst {st : Stx xi} {S : Addr → Prop} {H : Hp} {m : SM} {vs : List V} {ds : List D} {Q : VK} {E : XK} (cv : Cov K st S H m) (o : Out K st S H ((pure (.lst ds) : M D) m) Q E) (r : RepL K st S H vs ds) : ∀ p, H p = none → Q (.ref p) (upd H p (.lst vs)) :=
  fun p n => o _ _ (Chg.new n) (cv.new n) (.lst (cv.out n) upd_same (r.new n))
def lim (n : Nat) : M Unit := if n ≤ 16777216 then pure () else M.bad
theorem out_lim {α : Type} {n : Nat} {f : Unit → M α} {m : SM} {P : R α → Prop} (hb : ¬ P .bad) (o : P ((lim n >>= f) m)) : n ≤ sizeLine ∧ P (f () m) := by
  unfold lim at o
  by_cases h : n ≤ 16777216
  · rw [if_pos h] at o; exact ⟨by rw [sizeLine_eq]; exact h, o⟩
  · rw [if_neg h] at o; exact (hb o).elim
def need (b : Bool) : M Unit := if b = true then pure () else M.bad
theorem out_need {α : Type} {b : Bool} {f : Unit → M α} {m : SM} {P : R α → Prop} (hb : ¬ P .bad) (o : P ((need b >>= f) m)) : b = true ∧ P (f () m) := by
  unfold need at o
  by_cases h : b = true
  · rw [if_pos h] at o; exact ⟨h, o⟩
  · rw [if_neg h] at o; exact (hb o).elim
theorem VR2.or {r r' : R2} {g : D → D → M D} {P : D → D → Bool} (h : ∀ {xi : XI} (st : Stx xi) (S : Addr → Prop) (H : Hp) (m : SM) (x y : V) (dx dy : D) (Q : VK) (E : XK), P dx dy = true → Cov K st S H m → Rep K st S H x dx → Rep K st S H y dy → Out K st S H (g dx dy m) Q E → r x y H Q)
    (h' : ∀ {xi : XI} (st : Stx xi) (S : Addr → Prop) (H : Hp) (m : SM) (x y : V) (dx dy : D) (Q : VK) (E : XK), P dx dy = false → Cov K st S H m → Rep K st S H x dx → Rep K st S H y dy → Out K st S H (g dx dy m) Q E → r' x y H Q) : VR2 K (fun x y H Q => r x y H Q ∨ r' x y H Q) g :=
  fun st S H m x y dx dy Q E cv rx ry o => by
    cases e : P dx dy with
    | true => exact .inl (h st S H m x y dx dy Q E e cv rx ry o)
    | false => exact .inr (h' st S H m x y dx dy Q E e cv rx ry o)
def dI (c : Int → Int → Bool) (f : Int → Int → D) : D → D → M D
  | .int i, .int j => do need (c i j); pure (f i j)
  | _, _ => M.bad
theorem vr_I {C : Int → Int → Prop} {c : Int → Int → Bool} {g : Int → Int → V} {f : Int → Int → D} (hc : ∀ i j, c i j = true → C i j) (hf : ∀ {xi : XI} (st : Stx xi) S H i j, Rep K st S H (g i j) (f i j)) : VR2 K (rI C g) (dI c f) := by
  intro _ st S H m x y dx dy Q E cv rx ry o
  cases rx <;> try exact o.elim
  cases ry <;> try exact o.elim
  rename_i i j
  obtain ⟨h, o⟩ := out_need (P := fun r => Out K st S H r Q E) (fun z => z) o
  exact ⟨i, j, rfl, rfl, hc i j h, out_pure cv o (hf st S H i j)⟩
theorem vr_I0 {g : Int → Int → V} {f : Int → Int → D} (hf : ∀ {xi : XI} (st : Stx xi) S H i j, Rep K st S H (g i j) (f i j)) : VR2 K (rI0 g) (dI (fun _ _ => true) f) := by
  intro _ st S H m x y dx dy Q E cv rx ry o
  cases rx <;> try exact o.elim
  cases ry <;> try exact o.elim
  rename_i i j
  exact ⟨i, j, rfl, rfl, out_pure cv o (hf st S H i j)⟩
abbrev dSub : D → D → M D := dI (fun _ _ => true) fun i j => .int (i - j)
abbrev dLt : D → D → M D := dI (fun _ _ => true) fun i j => .bl (decide (i < j))
abbrev dLe : D → D → M D := dI (fun _ _ => true) fun i j => .bl (decide (i ≤ j))
abbrev dGt : D → D → M D := dI (fun _ _ => true) fun i j => .bl (decide (j < i))
abbrev dGe : D → D → M D := dI (fun _ _ => true) fun i j => .bl (decide (j ≤ i))
abbrev dMod : D → D → M D := dI (fun _ j => decide (0 < j)) fun i j => .int (i % j)
abbrev dDiv : D → D → M D := dI (fun _ j => decide (0 < j ∧ j < 2 ^ 64)) fun i j => .int (i / j)
abbrev dPow : D → D → M D := dI (fun i j => decide (0 ≤ j ∧ j ≤ 1000000 ∧ i.natAbs < 2 ^ 64)) fun i j => .int (i ^ j.toNat)
theorem vr_sub : VR2 K (rI0 fun i j => .int (i - j)) dSub := vr_I0 fun _ _ _ _ _ => .int _
theorem vr_lt : VR2 K (rI0 fun i j => .bl (decide (i < j))) dLt := vr_I0 fun _ _ _ _ _ => .bl _
theorem vr_le : VR2 K (rI0 fun i j => .bl (decide (i ≤ j))) dLe := vr_I0 fun _ _ _ _ _ => .bl _
theorem vr_gt : VR2 K (rI0 fun i j => .bl (decide (j < i))) dGt := vr_I0 fun _ _ _ _ _ => .bl _
theorem vr_ge : VR2 K (rI0 fun i j => .bl (decide (j ≤ i))) dGe := vr_I0 fun _ _ _ _ _ => .bl _
theorem vr_mod : VR2 K (rI (fun _ j => 0 < j) fun i j => .int (i % j)) dMod := vr_I (fun _ _ h => of_decide_eq_true h) fun _ _ _ _ _ => .int _
theorem vr_div : VR2 K (rI CDivW fun i j => .int (i / j)) dDiv := vr_I (fun i j h => by
    obtain ⟨h1, h2⟩ := of_decide_eq_true h
    exact wide_div (b := 64) h1 (by omega) (by decide) (by decide)) fun _ _ _ _ _ => .int _
theorem vr_pow : VR2 K (rI CPow fun i j => .int (i ^ j.toNat)) dPow := vr_I (fun i j h => (of_decide_eq_true h : 0 ≤ j ∧ j ≤ 1000000 ∧ i.natAbs < 2 ^ 64)) fun _ _ _ _ _ => .int _
/-- * : ints (one side below 2^64), a list times an int -/
def dMul : D → D → M D
  | .int i, .int j => do need (decide ((-(2 ^ 64) < i ∧ i < 2 ^ 64) ∨ (-(2 ^ 64) < j ∧ j < 2 ^ 64))); pure (.int (i * j))
  | .lst xs, .int k => do need (decide (-(2 ^ 63) ≤ k ∧ k < 2 ^ 63)); lim (xs.length * k.toNat); pure (.lst (List.replicate k.toNat xs).flatten)
  | _, _ => M.bad
def isLI : D → D → Bool
  | .lst _, .int _ => true
  | _, _ => false
theorem RepL.rep {st : Stx xi} {S : Addr → Prop} {H : Hp} {vs : List V} {ds : List D} (r : RepL K st S H vs ds) : ∀ k : Nat, RepL K st S H (List.replicate k vs).flatten (List.replicate k ds).flatten
  | 0 => .nil
  | k + 1 => by
    rw [List.replicate_succ, List.replicate_succ, List.flatten_cons, List.flatten_cons]
    exact r.append (RepL.rep r k)
theorem vr_mul : VR2 K (fun x y H Q => rRep x y H Q ∨ rI CMul (fun i j => .int (i * j)) x y H Q) dMul := by
  refine VR2.or (P := isLI) (fun st S H m x y dx dy Q E e cv rx ry o => ?_) (fun st S H m x y dx dy Q E e cv rx ry o => ?_)
  · cases rx <;> try exact o.elim
    · cases ry <;> try exact o.elim
      cases e
    · rename_i nS hl r
      cases ry <;> try exact o.elim
      rename_i k
      obtain ⟨h, o⟩ := out_need (P := fun r => Out K st S H r Q E) (fun z => z) o
      obtain ⟨h2, o⟩ := out_lim (P := fun r => Out K st S H r Q E) (fun z => z) o
      obtain ⟨h3, h4⟩ := of_decide_eq_true h
      exact ⟨_, k, _, rfl, rfl, hl, h3, h4, by rw [r.length]; exact h2, out_lst cv o (r.rep k.toNat)⟩
  · cases rx <;> try exact o.elim
    · cases ry <;> try exact o.elim
      rename_i i j
      obtain ⟨h, o⟩ := out_need (P := fun r => Out K st S H r Q E) (fun z => z) o
      exact ⟨i, j, rfl, rfl, (of_decide_eq_true h : (-(2 ^ 64) < i ∧ i < 2 ^ 64) ∨ (-(2 ^ 64) < j ∧ j < 2 ^ 64)), out_pure cv o (.int _)⟩
    · cases ry <;> try exact o.elim
      cases e
/-- + : ints, texts, lists, tuples (the first not empty) -/
def dAdd : D → D → M D
  | .int i, .int j => pure (.int (i + j))
  | .str i, .str j => do lim (i.length + j.length); pure (.str (i ++ j))
  | .lst xs, .lst ys => do lim (xs.length + ys.length); pure (.lst (xs ++ ys))
  | .tup xs, .tup ys => do need (!xs.isEmpty); lim (xs.length + ys.length); pure (.tup (xs ++ ys))
  | _, _ => M.bad
def rAddD (K : PySem.W.Frag) : R2 := fun x y H Q => (rI0 (fun i j => V.int (i + j)) x y H Q) ∨ (∃ i j, x = .str i ∧ y = .str j ∧ i.length + j.length ≤ sizeLine ∧ Q (.str (i ++ j)) H) ∨ rCat x y H Q ∨ rCatN K x y H Q
theorem op_addD {X : Cx} : OpR X (binaryOp .Add) (rAddD X.K) := op_add.or (op_add_str.or (op_cat.or op_catN))
theorem rep_nil {st : Stx xi} {S : Addr → Prop} {H : Hp} {vs : List V} {ds : List D} (r : RepL K st S H vs ds) : vs = [] ↔ ds = [] := by
  cases r <;> simp
theorem vr_add : VR2 K (rAddD K) dAdd := by
  intro _ st S H m x y dx dy Q E cv rx ry o
  have rx0 := rx
  cases rx <;> try exact o.elim
  · cases ry <;> try exact o.elim
    exact .inl ⟨_, _, rfl, rfl, out_pure cv o (.int _)⟩
  · cases ry <;> try exact o.elim
    obtain ⟨h2, o⟩ := out_lim (P := fun r => Out K st S H r Q E) (fun z => z) o
    exact .inr (.inl ⟨_, _, rfl, rfl, h2, out_pure cv o (.str _)⟩)
  · rename_i h r
    cases ry <;> try exact o.elim
    rename_i h' r'
    obtain ⟨h1, o⟩ := out_need (P := fun r => Out K st S H r Q E) (fun z => z) o
    obtain ⟨h2, o⟩ := out_lim (P := fun r => Out K st S H r Q E) (fun z => z) o
    refine .inr (.inr (.inr ⟨_, _, _, _, rfl, rfl, h.sq, h'.sq, ?_, by rw [r.length, r'.length]; exact h2, fun e => ?_, fun _ => out_tup cv o (r.append r')⟩))
    · intro e
      rw [(rep_nil r).mp e] at h1
      cases h1
    · have e2 := (rep_nil r').mp e
      subst e2
      rw [List.append_nil] at o
      exact out_pure cv o rx0
  · rename_i n h r
    cases ry <;> try exact o.elim
    rename_i n' h' r'
    obtain ⟨h2, o⟩ := out_lim (P := fun r => Out K st S H r Q E) (fun z => z) o
    exact .inr (.inr (.inl ⟨_, _, _, _, rfl, rfl, h, h', by rw [r.length, r'.length]; exact h2, out_lst cv o (r.append r')⟩))
mutual
def D.py : D → Option PyData
  | .non => some .none
  | .bl b => some (.bool b)
  | .int i => some (.int i)
  | .str x => some (.str x)
  | .tup xs => (D.pys xs).map .tuple
  | .lst xs => (D.pys xs).map .list
  | _ => none
def D.pys : List D → Option (List PyData)
  | [] => some []
  | d :: ds => match D.py d, D.pys ds with
    | some e, some es => some (e :: es)
    | _, _ => none
end
mutual
theorem Rep.dp {st : Stx xi} {S : Addr → Prop} {H : Hp} : ∀ {v : V} {d : D} {e : PyData}, Rep K st S H v d → d.py = some e → Dp K H v e
  | _, _, _, .non, h => by rw [D.py] at h; cases h; exact .non
  | _, _, _, .bl b, h => by rw [D.py] at h; cases h; exact .bl b
  | _, _, _, .int i, h => by rw [D.py] at h; cases h; exact .int i
  | _, _, _, .str x, h => by rw [D.py] at h; cases h; exact .str x
  | _, _, _, .tup hs r, h => by
    rw [D.py] at h
    obtain ⟨es, h1, h2⟩ := Option.map_eq_some_iff.mp h
    subst h2
    exact .tup hs.sq (RepL.dp r h1)
  | _, _, _, .lst _ hs r, h => by
    rw [D.py] at h
    obtain ⟨es, h1, h2⟩ := Option.map_eq_some_iff.mp h
    subst h2
    exact .lst (SqL.of hs) (RepL.dp r h1)
  | _, _, _, .obj _ _ _, h => by rw [D.py] at h <;> first | cases h | (intros; simp_all)
  | _, _, _, .rng _, h => by rw [D.py] at h <;> first | cases h | (intros; simp_all)
  | _, _, _, .exc _ _ _ _ _ _, h => by rw [D.py] at h <;> first | cases h | (intros; simp_all)
  | _, _, _, .sto _, h => by rw [D.py] at h <;> first | cases h | (intros; simp_all)
  | _, _, _, .scr _, h => by rw [D.py] at h <;> first | cases h | (intros; simp_all)
theorem RepL.dp {st : Stx xi} {S : Addr → Prop} {H : Hp} : ∀ {vs : List V} {ds : List D} {es : List PyData}, RepL K st S H vs ds → D.pys ds = some es → DpAll K H vs es
  | _, _, _, .nil, h => by rw [D.pys] at h; cases h; exact .nil
  | _, _, _, .cons (d := d) (ds := ds) r t, h => by
    rw [D.pys] at h
    cases e1 : d.py with
    | none => rw [e1] at h; simp at h
    | some u =>
      cases e2 : D.pys ds with
      | none => rw [e1, e2] at h; simp at h
      | some us =>
        rw [e1, e2] at h
        simp at h
        subst h
        exact .cons (Rep.dp r e1) (RepL.dp t e2)
end
def dEqB (dx dy : D) : Option Bool := match dx.py, dy.py with
  | some d, some e => if SeqAt.shaped d && SeqAt.shaped e then some (PyData.eqv d e) else none
  | _, _ => none
def dEq (dx dy : D) : M D := match dEqB dx dy with
  | some b => pure (.bl b)
  | none => M.bad
def dNe (dx dy : D) : M D := match dEqB dx dy with
  | some b => pure (.bl (!b))
  | none => M.bad
theorem dEqB_ok {st : Stx xi} {S : Addr → Prop} {H : Hp} {x y : V} {dx dy : D} {b : Bool} (h : dEqB dx dy = some b) (rx : Rep K st S H x dx) (ry : Rep K st S H y dy) : ∃ d e, Dp K H x d ∧ Dp K H y e ∧ SeqAt.shaped d = true ∧ SeqAt.shaped e = true ∧ PyData.eqv d e = b := by
  unfold dEqB at h
  cases e1 : dx.py with
  | none => rw [e1] at h; simp at h
  | some d =>
    cases e2 : dy.py with
    | none => rw [e1, e2] at h; simp at h
    | some e =>
      rw [e1, e2] at h
      cases e3 : (SeqAt.shaped d && SeqAt.shaped e) with
      | false => simp [e3] at h
      | true =>
        simp [e3] at h
        obtain ⟨h3, h4⟩ := Bool.and_eq_true_iff.mp e3
        exact ⟨d, e, rx.dp e1, ry.dp e2, h3, h4, h⟩
theorem vr_eq : VR2 K (rEqD K) dEq := by
  intro _ st S H m x y dx dy Q E cv rx ry o
  unfold dEq at o
  cases h : dEqB dx dy with
  | none => rw [h] at o; exact o.elim
  | some b =>
    rw [h] at o
    obtain ⟨d, e, h1, h2, h3, h4, h5⟩ := dEqB_ok h rx ry
    refine ⟨d, e, h1, h2, h3, h4, ?_⟩
    rw [h5]
    exact out_pure cv o (.bl _)
theorem vr_ne : VR2 K (rNeD K) dNe := by
  intro _ st S H m x y dx dy Q E cv rx ry o
  unfold dNe at o
  cases h : dEqB dx dy with
  | none => rw [h] at o; exact o.elim
  | some b =>
    rw [h] at o
    obtain ⟨d, e, h1, h2, h3, h4, h5⟩ := dEqB_ok h rx ry
    refine ⟨d, e, h1, h2, h3, h4, ?_⟩
    rw [h5]
    exact out_pure cv o (.bl _)
def dIsN : D → D → M D
  | .non, .non => pure (.bl true)
  | _, .non => pure (.bl false)
  | .bl a, .bl b => pure (.bl (decide (a = b)))
  | _, _ => M.bad
def rIsD : R2 := fun x y H Q => (y = .non ∧ Q (.bl (decide (x = .non))) H) ∨ rIsB x y H Q
theorem op_isD {X : Cx} : OpR X (compareOp .Is) rIsD := op_isN.or op_isBl
theorem vr_is : VR2 K rIsD dIsN := by
  intro _ st S H m x y dx dy Q E cv rx ry o
  cases ry with
  | non => cases rx <;> exact .inl ⟨rfl, by first | exact out_pure cv o (.bl _)⟩
  | bl b => cases rx <;> first | exact .inr ⟨_, _, rfl, rfl, out_pure cv o (.bl _)⟩ | exact o.elim
  | _ => cases rx <;> exact o.elim
def D.scal : D → Bool
  | .non => true
  | .bl _ => true
  | .int _ => true
  | .str _ => true
  | _ => false
def D.eqs : D → D → Bool
  | .non, .non => true
  | .bl a, .bl b => a == b
  | .bl a, .int b => (if a then 1 else 0) == b
  | .int a, .bl b => a == (if b then 1 else 0)
  | .int a, .int b => a == b
  | .str a, .str b => a == b
  | _, _ => false
def D.its : D → Option (List D)
  | .tup xs => some xs
  | .lst xs => some xs
  | _ => none
def dInB (x y : D) : Option Bool := match y.its with
  | some xs => if x.scal && xs.all D.scal then some (xs.any fun z => z.eqs x) else none
  | none => none
def dIn (x y : D) : M D := match dInB x y with
  | some b => pure (.bl b)
  | none => M.bad
def dNotIn (x y : D) : M D := match dInB x y with
  | some b => pure (.bl (!b))
  | none => M.bad
theorem rep_scal {st : Stx xi} {S : Addr → Prop} {H : Hp} {v : V} {d : D} (r : Rep K st S H v d) (h : d.scal = true) : flatV v = true := by
  cases r <;> first | rfl | cases h
theorem rep_scals {st : Stx xi} {S : Addr → Prop} {H : Hp} : ∀ {vs : List V} {ds : List D}, RepL K st S H vs ds → ds.all D.scal = true → vs.all flatV = true
  | _, _, .nil, _ => rfl
  | _, _, .cons r t, h => by
    rw [List.all_cons] at h ⊢
    obtain ⟨h1, h2⟩ := Bool.and_eq_true_iff.mp h
    rw [rep_scal r h1, rep_scals t h2]; rfl
theorem rep_eqs {st : Stx xi} {S : Addr → Prop} {H : Hp} {v u : V} {d e : D} (r : Rep K st S H v d) (q : Rep K st S H u e) (h : d.scal = true) (h' : e.scal = true) : eqV v u = d.eqs e := by
  cases r <;> first | cases h; done | (cases q <;> first | rfl | cases h')
theorem rep_any {st : Stx xi} {S : Addr → Prop} {H : Hp} {u : V} {e : D} (q : Rep K st S H u e) (h' : e.scal = true) : ∀ {vs : List V} {ds : List D}, RepL K st S H vs ds → ds.all D.scal = true → inV u vs = ds.any fun z => z.eqs e
  | _, _, .nil, _ => rfl
  | _, _, .cons r t, h => by
    rw [List.all_cons] at h
    obtain ⟨h1, h2⟩ := Bool.and_eq_true_iff.mp h
    have e1 := rep_any q h' t h2
    unfold inV at e1 ⊢
    rw [List.any_cons, List.any_cons, e1, rep_eqs r q h1 h']
theorem dInB_ok {st : Stx xi} {S : Addr → Prop} {H : Hp} {x y : V} {dx dy : D} {b : Bool} (h : dInB dx dy = some b) (rx : Rep K st S H x dx) (ry : Rep K st S H y dy) : ∃ p xs, y = .ref p ∧ (SqL K H p xs ∨ SqT K H p xs) ∧ flatV x = true ∧ xs.all flatV = true ∧ inV x xs = b := by
  unfold dInB at h
  cases ry <;> simp [D.its] at h
  · rename_i hs r
    obtain ⟨⟨h1, h2⟩, h3⟩ := h
    have h2' : (List.all _ D.scal) = true := List.all_eq_true.mpr h2
    exact ⟨_, _, rfl, .inr hs.sq, rep_scal rx h1, rep_scals r h2', by rw [rep_any rx h1 r h2']; exact h3⟩
  · rename_i hn hs r
    obtain ⟨⟨h1, h2⟩, h3⟩ := h
    have h2' : (List.all _ D.scal) = true := List.all_eq_true.mpr h2
    exact ⟨_, _, rfl, .inl (SqL.of hs), rep_scal rx h1, rep_scals r h2', by rw [rep_any rx h1 r h2']; exact h3⟩
theorem vr_in : VR2 K (rIn K false) dIn := by
  intro _ st S H m x y dx dy Q E cv rx ry o
  unfold dIn at o
  cases h : dInB dx dy with
  | none => rw [h] at o; exact o.elim
  | some b =>
    rw [h] at o
    obtain ⟨p, xs, e, h1, h2, h3, h4⟩ := dInB_ok h rx ry
    refine ⟨p, xs, e, h1, h2, h3, ?_⟩
    rw [h4]
    exact out_pure cv o (.bl _)
theorem vr_notIn : VR2 K (rIn K true) dNotIn := by
  intro _ st S H m x y dx dy Q E cv rx ry o
  unfold dNotIn at o
  cases h : dInB dx dy with
  | none => rw [h] at o; exact o.elim
  | some b =>
    rw [h] at o
    obtain ⟨p, xs, e, h1, h2, h3, h4⟩ := dInB_ok h rx ry
    refine ⟨p, xs, e, h1, h2, h3, ?_⟩
    rw [h4]
    exact out_pure cv o (.bl _)
def dIxO : D → D → Option D
  | .lst xs, .int i => atI xs i
  | .tup xs, .int i => atI xs i
  | .scr ns, .int i => (atI ns i).map D.int
  | .str z, .int i => if z.length ≤ 16777216 then (atI z.cps.toList i).map fun c => D.str ⟨#[c]⟩ else none
  | _, _ => none
def ofO (o : Option D) : M D := match o with
  | some d => pure d
  | none => M.bad
/-- what lies in the store -/
def SM.all (m : SM) : List D := .scr m.cs :: m.xs.map D.int
def dIx : D → D → M D
  | .sto, .int i => fun m => ofO (atI m.all i) m
  | x, y => ofO (dIxO x y)
theorem out_ofO {st : Stx xi} {S : Addr → Prop} {H : Hp} {m : SM} {o : Option D} {Q : VK} {E : XK} (h : Out K st S H (ofO o m) Q E) : ∃ d, o = some d ∧ Out K st S H ((pure d : M D) m) Q E := by
  cases o with
  | none => exact h.elim
  | some d => exact ⟨d, rfl, h⟩
theorem rep_atI {st : Stx xi} {S : Addr → Prop} {H : Hp} {vs : List V} {ds : List D} {i : Int} {d : D} (r : RepL K st S H vs ds) (h : atI ds i = some d) : ∃ v, atI vs i = some v ∧ Rep K st S H v d := by
  unfold atI at h ⊢
  rw [r.length]
  cases e : ixN ds.length i with
  | none => rw [e] at h; cases h
  | some j =>
    rw [e] at h
    obtain ⟨v, h1, h2⟩ := r.get (show ds[j]? = some d from h)
    exact ⟨v, h1, h2⟩
theorem atI_map {α β : Type} (f : α → β) (xs : List α) (i : Int) : atI (xs.map f) i = (atI xs i).map f := by
  unfold atI
  rw [List.length_map]
  cases ixN xs.length i with
  | none => rfl
  | some j => simp
theorem repI {st : Stx xi} {S : Addr → Prop} {H : Hp} : ∀ ns : List Int, RepL K st S H (ns.map V.int) (ns.map D.int)
  | [] => .nil
  | n :: ns => .cons (.int n) (repI ns)
theorem vr_ix : VR2 K (rIx K) dIx := by
  intro _ st S H m x y dx dy Q E cv rx ry o
  by_cases hst : dx = .sto
  · subst hst
    cases rx with
    | sto hs =>
    cases ry with
    | int i =>
      obtain ⟨d, e, o2⟩ := out_ofO (show Out K st S H (ofO (atI m.all i) m) Q E from o)
      have sa := cv.sto _ _ hs
      have rl : RepL K st S H (.ref _ :: m.xs.map V.int) m.all := .cons (.scr sa.cs) (repI m.xs)
      obtain ⟨v, h1, h2⟩ := rep_atI rl e
      exact .inl ⟨_, _, i, v, rfl, rfl, SqL.of sa.at_, h1, out_pure cv o2 h2⟩
    | _ => exact o.elim
  replace o : Out K st S H (ofO (dIxO dx dy) m) Q E := by
    cases dx <;> first | exact absurd rfl hst | (cases dy <;> exact o)
  obtain ⟨d, e, o2⟩ := out_ofO o
  clear o
  cases rx <;> try (cases ry <;> cases e; done)
  · cases ry <;> try (cases e; done)
    rename_i z i
    have e' : (if z.length ≤ 16777216 then (atI z.cps.toList i).map fun c => D.str ⟨#[c]⟩ else none) = some d := e
    by_cases hz : z.length ≤ 16777216
    · rw [if_pos hz] at e'
      obtain ⟨c, h, h2⟩ := Option.map_eq_some_iff.mp e'
      subst h2
      exact .inr (.inr ⟨z, i, c, rfl, rfl, by rw [sizeLine_eq]; exact hz, h, out_pure cv o2 (.str _)⟩)
    · rw [if_neg hz] at e'; cases e'
  · rename_i hs r
    cases ry <;> try (cases e; done)
    rename_i xs i
    obtain ⟨v, h1, h2⟩ := rep_atI r (show atI xs i = some d from e)
    exact .inr (.inl ⟨_, _, i, v, rfl, rfl, hs.sq, h1, out_pure cv o2 h2⟩)
  · rename_i hn hs r
    cases ry <;> try (cases e; done)
    rename_i xs i
    obtain ⟨v, h1, h2⟩ := rep_atI r (show atI xs i = some d from e)
    exact .inl ⟨_, _, i, v, rfl, rfl, SqL.of hs, h1, out_pure cv o2 h2⟩
  · rename_i ns hs
    cases ry <;> try (cases e; done)
    rename_i i
    obtain ⟨n, h, h2⟩ := Option.map_eq_some_iff.mp (show (atI ns i).map D.int = some d from e)
    subst h2
    exact .inl ⟨_, _, i, .int n, rfl, rfl, hs.sq, by rw [atI_map, h]; rfl, out_pure cv o2 (.int _)⟩
end
end Den
set_option Elab.async false
set_option linter.all false
set_option maxRecDepth 100000
set_option maxHeartbeats 4000000
namespace Den
open PySem PySem.Spec PyProof.Rows L2
def OutL (K : PySem.W.Frag) (st : Stx xi) (S : Addr → Prop) (H : Hp) (r : R (List D)) (Q : List V → Hp → Prop) (E : XK) : Prop := match r with
  | .ok ds m' => ∀ vs H', Chg (atSt st) H H' → Cov K st S H' m' → RepL K st S H' vs ds → Q vs H'
  | .err c fs m' => ∀ dd fv H', Chg (atSt st) H H' → Cov K st S H' m' → H' dd = some (.xd fv) → H dd = none → RepF K st S H' fv fs → E (.ref (He.ga K c)) (some dd) H'
  | .bad => False
def TAD (xi : XI) (K : PySem.W.Frag) (W : WX) (A : EV → M (List D)) : L2.TA := fun σ H Q => ∃ (st : Stx xi) (S : Addr → Prop) (ρ : EV) (m : SM), Cov K st S H m ∧ EnvR K st S H σ ρ ∧ OutL K st S H (A ρ m) Q (WE W σ)
structure SA (X : Cx) (W : WX) (es : List Expr) (A : EV → M (List D)) : Prop where
  pa : PA X es (TAD X.xi X.K W A)
theorem PA.imp {X : Cx} {es : List Expr} {t t' : L2.TA} (h : PA X es t) (i : ∀ σ H Q, t' σ H Q → t σ H Q) : PA X es t' := ⟨fun pos pins s σ H Q I q => h.run pos pins s σ H Q I (i σ H Q q)⟩
theorem OutL.chg {K : PySem.W.Frag} {st : Stx xi} {S : Addr → Prop} {H H1 : Hp} {r : R (List D)} {Q : List V → Hp → Prop} {E : XK} (o : OutL K st S H r Q E) (c : Chg (atSt st) H H1) : OutL K st S H1 r Q E := by
  cases r with
  | ok d m' => exact fun v H' c' => o v H' (c.trans c')
  | err k fs m' => exact fun dd fv H' c' cv h1 h2 => o dd fv H' (c.trans c') cv h1 (c.free h2)
  | bad => exact o
section
variable {X : Cx} {W : WX} {pos : Pos}
theorem TE.bindL {K : PySem.W.Frag} {F : EV → M D} {G : D → EV → M (List D)} {σ : L2.St} {H : Hp} {Q : List V → Hp → Prop} {R : V → Hp → Prop} {st : Stx xi} {S : Addr → Prop} {ρ : EV} {m : SM}
    (cv : Cov K st S H m) (er : EnvR K st S H σ ρ) (o : OutL K st S H ((F ρ >>= fun d => G d ρ) m) Q (WE W σ))
    (k : ∀ v d m1 H1, Chg (atSt st) H H1 → Cov K st S H1 m1 → EnvR K st S H1 σ ρ → Rep K st S H1 v d → OutL K st S H1 (G d ρ m1) Q (WE W σ) → R v H1) : TE xi K W F σ H R := by
  refine ⟨st, S, ρ, m, cv, er, ?_⟩
  rw [bind_run] at o
  cases e : F ρ m with
  | ok d m1 =>
    rw [e] at o
    exact fun v H1 c cv1 r => k v d m1 H1 c cv1 (er.mono c cv.sub) r (OutL.chg o c)
  | err c fs m1 =>
    rw [e] at o
    exact o
  | bad =>
    rw [e] at o
    exact o.elim
theorem TAD.bind {K : PySem.W.Frag} {A : EV → M (List D)} {G : List D → EV → M D} {σ : L2.St} {H : Hp} {Q : VK} {R : List V → Hp → Prop} {st : Stx xi} {S : Addr → Prop} {ρ : EV} {m : SM}
    (cv : Cov K st S H m) (er : EnvR K st S H σ ρ) (o : Out K st S H ((A ρ >>= fun d => G d ρ) m) Q (WE W σ))
    (k : ∀ vs ds m1 H1, Chg (atSt st) H H1 → Cov K st S H1 m1 → EnvR K st S H1 σ ρ → RepL K st S H1 vs ds → Out K st S H1 (G ds ρ m1) Q (WE W σ) → R vs H1) : TAD xi K W A σ H R := by
  refine ⟨st, S, ρ, m, cv, er, ?_⟩
  rw [bind_run] at o
  cases e : A ρ m with
  | ok d m1 =>
    rw [e] at o
    exact fun v H1 c cv1 r => k v d m1 H1 c cv1 (er.mono c cv.sub) r (Out.chg o c)
  | err c fs m1 =>
    rw [e] at o
    exact o
  | bad =>
    rw [e] at o
    exact o.elim
theorem sa_nil : SA X W [] (fun _ => pure []) := ⟨PA.imp pa_nil fun σ H Q ⟨st, S, ρ, m, cv, er, o⟩ => o [] H (Chg.refl H) cv .nil⟩
theorem sa_cons {e : Expr} {es : List Expr} {F : EV → M D} {A : EV → M (List D)} (ha : SE X W e F) (hr : SA X W es A) (hs : starEach (e :: es) X.env = (false, eval e X.env) :: starEach es X.env := by rfl) :
    SA X W (e :: es) (fun ρ => do let d ← F ρ; let ds ← A ρ; pure (d :: ds)) := by
  refine ⟨PA.imp (pa_cons ha.pe hr.pa hs) fun σ H Q ⟨st, S, ρ, m, cv, er, o⟩ => ?_⟩
  refine TE.bindL (G := fun d ρ => do let ds ← A ρ; pure (d :: ds)) cv er o fun v d m1 H1 c1 cv1 er1 r1 o1 => ?_
  refine ⟨st, S, ρ, m1, cv1, er1, ?_⟩
  rw [bind_run] at o1
  cases e1 : A ρ m1 with
  | ok ds m2 =>
    rw [e1] at o1
    exact fun vs H2 c2 cv2 r2 => o1 _ H2 c2 cv2 (.cons (r1.mono c2 cv1.sub fun _ z => z) r2)
  | err c fs m2 =>
    rw [e1] at o1
    exact o1
  | bad => rw [e1] at o1; exact o1.elim
theorem se_tup {es : List Expr} {x1} {A : EV → M (List D)} (h : SA X W es A) : SE X W (.Tuple es x1 pos) (fun ρ => do let ds ← A ρ; lim ds.length; pure (.tup ds)) := by
  refine .imp (pe_tupN h.pa) fun σ H Q ⟨st, S, ρ, m, cv, er, o⟩ => ?_
  refine TAD.bind (G := fun ds _ => do lim ds.length; pure (.tup ds)) cv er o fun vs ds m1 H1 c1 cv1 er1 r1 o1 => ?_
  obtain ⟨h2, o2⟩ := out_lim (P := fun r => Out X.K st S H1 r Q (WE W σ)) (fun z => z) o1
  exact ⟨by rw [r1.length]; exact h2, out_tup cv1 o2 r1⟩
def OutF (K : PySem.W.Frag) (st : Stx xi) (S : Addr → Prop) (H : Hp) (r : R (List D)) (Q : VK) (E : XK) : Prop := match r with
  | .ok ds m' => ∀ p vs H', H p = none → Chg (atSt st) H H' → Cov K st S H' m' → H' p = some (.lst vs) → RepL K st (fun a => S a ∨ a = p) H' vs ds → Q (.ref p) H'
  | .err c fs m' => ∀ dd fv H', Chg (atSt st) H H' → Cov K st S H' m' → H' dd = some (.xd fv) → H dd = none → RepF K st S H' fv fs → E (.ref (He.ga K c)) (some dd) H'
  | .bad => False
def TF (xi : XI) (K : PySem.W.Frag) (W : WX) (L : EV → M (List D)) : L2.TE := fun σ H Q => ∃ (st : Stx xi) (S : Addr → Prop) (ρ : EV) (m : SM), Cov K st S H m ∧ EnvR K st S H σ ρ ∧ OutF K st S H (L ρ m) Q (WE W σ)
structure SF (X : Cx) (W : WX) (e : Expr) (L : EV → M (List D)) : Prop where
  pe : PE X e (TF X.xi X.K W L)
theorem SF.imp {e : Expr} {L : EV → M (List D)} {t : L2.TE} (h : PE X e t) (i : ∀ σ H Q, TF X.xi X.K W L σ H Q → t σ H Q) : SF X W e L := ⟨PE.imp h i⟩
theorem OutF.chg {K : PySem.W.Frag} {st : Stx xi} {S : Addr → Prop} {H H1 : Hp} {r : R (List D)} {Q : VK} {E : XK} (o : OutF K st S H r Q E) (c : Chg (atSt st) H H1) : OutF K st S H1 r Q E := by
  cases r with
  | ok d m' => exact fun p v H' n c' => o p v H' (c.free n) (c.trans c')
  | err k fs m' => exact fun dd fv H' c' cv h1 h2 => o dd fv H' (c.trans c') cv h1 (c.free h2)
  | bad => exact o
theorem se_new {e : Expr} {L : EV → M (List D)} (h : SF X W e L) : SE X W e (fun ρ => do let xs ← L ρ; pure (.lst xs)) := by
  refine .imp h.pe fun σ H Q ⟨st, S, ρ, m, cv, er, o⟩ => ?_
  refine ⟨st, S, ρ, m, cv, er, ?_⟩
  replace o : Out X.K st S H ((L ρ >>= fun xs => pure (.lst xs)) m) Q (WE W σ) := o
  rw [bind_run] at o
  cases e1 : L ρ m with
  | ok ds m1 =>
    rw [e1] at o
    exact fun p vs H' n c cv1 hp r => o _ H' c cv1 (.lst (cv.out n) hp (r.mono (B := noB) (Chg.refl H') (fun _ z => z.elim) fun _ z => .inl z))
  | err c fs m1 => rw [e1] at o; exact o
  | bad => rw [e1] at o; exact o.elim
theorem TE.bindF {K : PySem.W.Frag} {F : EV → M D} {G : D → EV → M (List D)} {σ : L2.St} {H : Hp} {Q : VK} {R : V → Hp → Prop} {st : Stx xi} {S : Addr → Prop} {ρ : EV} {m : SM}
    (cv : Cov K st S H m) (er : EnvR K st S H σ ρ) (o : OutF K st S H ((F ρ >>= fun d => G d ρ) m) Q (WE W σ))
    (k : ∀ v d m1 H1, Chg (atSt st) H H1 → Cov K st S H1 m1 → EnvR K st S H1 σ ρ → Rep K st S H1 v d → OutF K st S H1 (G d ρ m1) Q (WE W σ) → R v H1) : TE xi K W F σ H R := by
  refine ⟨st, S, ρ, m, cv, er, ?_⟩
  rw [bind_run] at o
  cases e : F ρ m with
  | ok d m1 =>
    rw [e] at o
    exact fun v H1 c cv1 r => k v d m1 H1 c cv1 (er.mono c cv.sub) r (OutF.chg o c)
  | err c fs m1 => rw [e] at o; exact o
  | bad => rw [e] at o; exact o.elim
theorem TAD.bindF {K : PySem.W.Frag} {A : EV → M (List D)} {G : List D → EV → M (List D)} {σ : L2.St} {H : Hp} {Q : VK} {R : List V → Hp → Prop} {st : Stx xi} {S : Addr → Prop} {ρ : EV} {m : SM}
    (cv : Cov K st S H m) (er : EnvR K st S H σ ρ) (o : OutF K st S H ((A ρ >>= fun d => G d ρ) m) Q (WE W σ))
    (k : ∀ vs ds m1 H1, Chg (atSt st) H H1 → Cov K st S H1 m1 → EnvR K st S H1 σ ρ → RepL K st S H1 vs ds → OutF K st S H1 (G ds ρ m1) Q (WE W σ) → R vs H1) : TAD xi K W A σ H R := by
  refine ⟨st, S, ρ, m, cv, er, ?_⟩
  rw [bind_run] at o
  cases e : A ρ m with
  | ok d m1 =>
    rw [e] at o
    exact fun v H1 c cv1 r => k v d m1 H1 c cv1 (er.mono c cv.sub) r (OutF.chg o c)
  | err c fs m1 => rw [e] at o; exact o
  | bad => rw [e] at o; exact o.elim
/-- the end of a rule that lays a list -/
theorem out_new {K : PySem.W.Frag} {st : Stx xi} {S : Addr → Prop} {H : Hp} {m : SM} {vs : List V} {ds : List D} {Q : VK} {E : XK} (cv : Cov K st S H m) (o : OutF K st S H ((pure ds : M (List D)) m) Q E) (r : RepL K st S H vs ds) : ∀ p, H p = none → Q (.ref p) (upd H p (.lst vs)) :=
  fun p n => o p vs _ n (Chg.new n) (cv.new n) upd_same (RepL.new (r.wide fun a z => z.imp id fun q => by rw [q]; exact n) n)
theorem sf_lst {es : List Expr} {A : EV → M (List D)} (h : SA X W es A) : SF X W (.List es pos) (fun ρ => do let ds ← A ρ; lim ds.length; pure ds) := by
  refine .imp (pe_lst h.pa) fun σ H Q ⟨st, S, ρ, m, cv, er, o⟩ => ?_
  refine TAD.bindF (G := fun ds _ => do lim ds.length; pure ds) cv er o fun vs ds m1 H1 c1 cv1 er1 r1 o1 => ?_
  obtain ⟨h2, o2⟩ := out_lim (P := fun r => OutF X.K st S H1 r Q (WE W σ)) (fun z => z) o1
  exact ⟨by rw [r1.length]; exact h2, out_new cv1 o2 r1⟩
variable {es : List Expr} {e : Expr} {A : EV → M (List D)} {x : Str} {p : Pos} {k : Nat} {f : Addr} {fd : FuncData} {ps : List Str}
theorem se_call {g : List D → M D} (tk : Takes X W) (F : FnOk X.prog X.w X.K X.mg X.base (L2N.CX X.prog X.w) k f fd ps (spOf X.K g)) (hr : Room k X.A) (hg : Gl X x) (hm : X.mg x = some (.ref f)) (hk : PySem.W.keepIn X.K (.ref f) = true) (hb : Binds X.K fd ps []) (ha : SA X W (e :: es) A)
    (hdb : (x == ("__debug__" : Str)) = false := by decide) (he : starEach (e :: es) X.env = (false, eval e X.env) :: starEach es X.env := by rfl) (hpl : (backTo pos (starEach es X.env)).any (·.1) = false := by rfl) :
    SE X W (.Call (.Name x p) (e :: es) [] pos) (fun ρ => do let ds ← A ρ; g ds) := by
  refine .imp (pe_callS (E := WE W) F hr hg hm hk hb (fun σ => passAt tk σ) ha.pa hdb he hpl) fun σ H Q h => ?_
  rw [xi_room hr] at h ⊢
  obtain ⟨st, S, ρ, m, cv, er, o⟩ := h
  exact TAD.bind (G := fun ds _ => g ds) cv er o fun vs ds m1 H1 c1 cv1 er1 r1 o1 => ⟨st, S, ds, m1, cv1, r1, o1⟩
theorem se_callB {id : String} {r : List V → Hp → VK → Prop} (g : List D → M D) (hc : CallR X (.builtin id) r) (hr : VRL X.K r g) (hg : Gl X x) (hm : X.mg x = none) (hv : bootBuiltins x = some (.builtin id)) (ha : SA X W (e :: es) A) (hn : x ≠ "__name__" := by decide) (hdb : (x == ("__debug__" : Str)) = false := by decide)
    (he : starEach (e :: es) X.env = (false, eval e X.env) :: starEach es X.env := by rfl) (hpl : (backTo pos (starEach es X.env)).any (·.1) = false := by rfl) : SE X W (.Call (.Name x p) (e :: es) [] pos) (fun ρ => do let ds ← A ρ; g ds) := by
  refine .imp (pe_callB hc hg hm hv ha.pa hn hdb he hpl) fun σ H Q ⟨st, S, ρ, m, cv, er, o⟩ => ?_
  exact TAD.bind (G := fun ds _ => g ds) cv er o fun vs ds m1 H1 c1 cv1 er1 r1 o1 => hr st S H1 m1 vs ds Q _ cv1 r1 o1
theorem se_callT {T : String} {r : List V → Hp → VK → Prop} (g : List D → M D) (hc : CallR X (.type T) r) (hr : VRL X.K r g) (hg : Gl X x) (hm : X.mg x = none) (hv : bootBuiltins x = some (.type T)) (ha : SA X W (e :: es) A) (hn : x ≠ "__name__" := by decide) (hdb : (x == ("__debug__" : Str)) = false := by decide)
    (he : starEach (e :: es) X.env = (false, eval e X.env) :: starEach es X.env := by rfl) (hpl : (backTo pos (starEach es X.env)).any (·.1) = false := by rfl) : SE X W (.Call (.Name x p) (e :: es) [] pos) (fun ρ => do let ds ← A ρ; g ds) := by
  refine .imp (pe_callTy hc hg hm hv ha.pa hn hdb he hpl) fun σ H Q ⟨st, S, ρ, m, cv, er, o⟩ => ?_
  exact TAD.bind (G := fun ds _ => g ds) cv er o fun vs ds m1 H1 c1 cv1 er1 r1 o1 => hr st S H1 m1 vs ds Q _ cv1 r1 o1
end
section
variable {K : PySem.W.Frag}
theorem repL1 {st : Stx xi} {S : Addr → Prop} {H : Hp} {vs : List V} {d : D} (r : RepL K st S H vs [d]) : ∃ v, vs = [v] ∧ Rep K st S H v d := by
  cases r with
  | cons h t => cases t; exact ⟨_, rfl, h⟩
theorem repL2 {st : Stx xi} {S : Addr → Prop} {H : Hp} {vs : List V} {d e : D} (r : RepL K st S H vs [d, e]) : ∃ v u, vs = [v, u] ∧ Rep K st S H v d ∧ Rep K st S H u e := by
  cases r with
  | cons h t => obtain ⟨u, e1, r1⟩ := repL1 t; subst e1; exact ⟨_, u, rfl, h, r1⟩
def dLen1 : D → Option Int
  | .str y => if y.length ≤ 16777216 then some (y.length : Int) else none
  | .tup xs => some xs.length
  | .lst xs => some xs.length
  | .scr ns => some ns.length
  | _ => none
def dLen : List D → M D
  | [d] => ofO ((dLen1 d).map .int)
  | _ => M.bad
theorem vr_len : VRL K (fun xs H Q => ∃ x n, xs = [x] ∧ LenV K x H n ∧ Q (.int n) H) dLen := by
  intro _ st S H m xs ds Q E cv r o
  cases ds with
  | nil => exact o.elim
  | cons d ds =>
    cases ds with
    | cons _ _ => exact o.elim
    | nil =>
      obtain ⟨v, rfl, rv⟩ := repL1 r
      obtain ⟨u, h, o2⟩ := out_ofO o
      clear o
      obtain ⟨n, h1, h2⟩ := Option.map_eq_some_iff.mp h
      subst h2
      cases rv <;> try (cases h1; done)
      · rename_i y
        have e' : (if y.length ≤ 16777216 then some (y.length : Int) else none) = some n := h1
        by_cases hz : y.length ≤ 16777216
        · rw [if_pos hz] at e'; cases e'
          exact ⟨_, y.length, rfl, ⟨by rw [sizeLine_eq]; exact hz, rfl⟩, out_pure cv o2 (.int _)⟩
        · rw [if_neg hz] at e'; cases e'
      · rename_i hs rr
        cases h1
        refine ⟨_, _, rfl, .inr ⟨_, hs.sq, rfl⟩, ?_⟩
        rw [rr.length]
        exact out_pure cv o2 (.int _)
      · rename_i hn hs rr
        cases h1
        refine ⟨_, _, rfl, .inl ⟨_, SqL.of hs, rfl⟩, ?_⟩
        rw [rr.length]
        exact out_pure cv o2 (.int _)
      · rename_i hs
        cases h1
        refine ⟨_, _, rfl, .inl ⟨_, hs.sq, rfl⟩, ?_⟩
        rw [List.length_map]
        exact out_pure cv o2 (.int _)
def dTuple : List D → M D
  | [.tup xs] => pure (.tup xs)
  | [.lst xs] => pure (.tup xs)
  | _ => M.bad
theorem vr_tuple : VRL K (rTupN K) dTuple := by
  intro _ st S H m xs ds Q E cv r o
  cases ds with
  | nil => exact o.elim
  | cons d ds =>
    cases ds with
    | cons _ _ => cases d <;> exact o.elim
    | nil =>
      obtain ⟨v, rfl, rv⟩ := repL1 r
      cases d <;> try exact o.elim
      · cases rv with
        | tup hs rr => exact ⟨_, _, rfl, .inr ⟨hs.sq, out_pure cv o (.tup hs rr)⟩⟩
      · cases rv with
        | lst hn hs rr => exact ⟨_, _, rfl, .inl ⟨SqL.of hs, out_tup cv o rr⟩⟩
def dInt : List D → M D
  | [.int i] => pure (.int i)
  | [.bl b] => pure (.int (if b then 1 else 0))
  | _ => M.bad
theorem vr_int : VRL K (fun xs H Q => (∃ i, xs = [.int i] ∧ Q (.int i) H) ∨ ∃ k, xs = [.bl k] ∧ Q (.int (if k then 1 else 0)) H) dInt := by
  intro _ st S H m xs ds Q E cv r o
  cases ds with
  | nil => exact o.elim
  | cons d ds =>
    cases ds with
    | cons _ _ => cases d <;> exact o.elim
    | nil =>
      obtain ⟨v, rfl, rv⟩ := repL1 r
      cases d <;> try exact o.elim
      · cases rv; exact .inr ⟨_, rfl, out_pure cv o (.int _)⟩
      · cases rv; exact .inl ⟨_, rfl, out_pure cv o (.int _)⟩
def dMin : List D → M D
  | [.int i, .int j] => pure (.int (if j < i then j else i))
  | _ => M.bad
def dMax : List D → M D
  | [.int i, .int j] => pure (.int (if j > i then j else i))
  | _ => M.bad
theorem two_ints {f : Int → Int → D} {g : List D → M D} (hg : ∀ ds : List D, (∃ i j, ds = [.int i, .int j] ∧ g ds = pure (f i j)) ∨ g ds = M.bad) {h : Int → Int → V} (hf : ∀ {xi : XI} (st : Stx xi) S H i j, Rep K st S H (h i j) (f i j)) : VRL K (fun xs H Q => ∃ i j, xs = [.int i, .int j] ∧ Q (h i j) H) g := by
  intro _ st S H m xs ds Q E cv r o
  rcases hg ds with ⟨i, j, rfl, e⟩ | e
  · rw [e] at o
    obtain ⟨v, u, rfl, r1, r2⟩ := repL2 r
    cases r1; cases r2
    exact ⟨i, j, rfl, out_pure cv o (hf st S H i j)⟩
  · rw [e] at o; exact o.elim
theorem dMin_or (ds : List D) : (∃ i j, ds = [.int i, .int j] ∧ dMin ds = pure (.int (if j < i then j else i))) ∨ dMin ds = M.bad := by
  unfold dMin
  split
  · exact .inl ⟨_, _, rfl, rfl⟩
  · exact .inr rfl
theorem vr_min : VRL K (fun xs H Q => ∃ i j, xs = [.int i, .int j] ∧ Q (.int (if j < i then j else i)) H) dMin := two_ints (f := fun i j => .int (if j < i then j else i)) dMin_or fun _ _ _ _ _ => .int _
/-- a list of bools -/
def D.bools : List D → Option (List Bool)
  | [] => some []
  | .bl b :: ds => (D.bools ds).map (b :: ·)
  | _ => none
theorem rep_bools {st : Stx xi} {S : Addr → Prop} {H : Hp} : ∀ {vs : List V} {ds : List D} {bs : List Bool}, RepL K st S H vs ds → D.bools ds = some bs → vs = bs.map V.bl
  | _, _, _, .nil, h => by cases h; rfl
  | _, _, bs, .cons (d := d) r t, h => by
    cases d <;> try (cases h; done)
    obtain ⟨cs, h1, h2⟩ := Option.map_eq_some_iff.mp (show (D.bools _).map _ = some bs from h)
    subst h2
    cases r
    rw [rep_bools t h1]; rfl
def dAll : List D → M D
  | [.lst xs] => ofO ((D.bools xs).map fun bs => .bl (bs.all id))
  | _ => M.bad
def dAny : List D → M D
  | [.lst xs] => ofO ((D.bools xs).map fun bs => .bl (bs.any id))
  | _ => M.bad
theorem vr_bools {g : List D → M D} {h : List Bool → Bool} (hg : ∀ ds : List D, (∃ xs, ds = [.lst xs] ∧ g ds = ofO ((D.bools xs).map fun bs => .bl (h bs))) ∨ g ds = M.bad) : VRL K (fun vs H Q => ∃ (a : Addr) (bs : List Bool), vs = [V.ref a] ∧ SqL K H a (bs.map V.bl) ∧ Q (.bl (h bs)) H) g := by
  intro _ st S H m xs ds Q E cv r o
  rcases hg ds with ⟨xs, rfl, e⟩ | e
  · rw [e] at o
    obtain ⟨v, rfl, r1⟩ := repL1 r
    obtain ⟨u, h1, o2⟩ := out_ofO o
    obtain ⟨bs, h2, h3⟩ := Option.map_eq_some_iff.mp h1
    subst h3
    cases r1 with
    | lst hn hs rr =>
      have e2 := rep_bools rr h2
      subst e2
      exact ⟨_, bs, rfl, SqL.of hs, out_pure cv o2 (.bl _)⟩
  · rw [e] at o; exact o.elim
theorem vr_all : VRL K (rAll K) dAll := vr_bools (h := fun bs => bs.all id) fun ds => by
  unfold dAll
  split
  · exact .inl ⟨_, rfl, rfl⟩
  · exact .inr rfl
theorem vr_any : VRL K (rAny K) dAny := vr_bools (h := fun bs => bs.any id) fun ds => by
  unfold dAny
  split
  · exact .inl ⟨_, rfl, rfl⟩
  · exact .inr rfl
end
end Den
set_option Elab.async false
set_option linter.all false
set_option maxRecDepth 100000
set_option maxHeartbeats 4000000
namespace Den
open PySem PySem.Spec PyProof.Rows L2
/-- one thing (pr = false), or a new pair of two things, told as a tuple of the two (pr = true) -/
@[reducible] def RepW (pr : Bool) (K : PySem.W.Frag) (st : Stx xi) (S : Addr → Prop) (H : Hp) (v : V) (d : D) : Prop := match pr with
  | false => Rep K st S H v d
  | true => ∃ (T : Addr) (x y : V) (d1 d2 : D), v = .ref T ∧ d = .tup [d1, d2] ∧ SqT K H T [x, y] ∧ Rep K st S H x d1 ∧ Rep K st S H y d2
/-- the iterator J gives the things ds while its sources stand -/
structure WalkD (pr : Bool) (K : PySem.W.Frag) (st : Stx xi) (J : It) (ds : List D) (vs0 : List V) (ds0 : List D) : Prop where
  goes : ∀ (S : Addr → Prop) (H : Hp) (i : Nat), i < ds.length → RepL K st S H vs0 ds0 → J.go i H
  stops : ∀ (S : Addr → Prop) (H : Hp), RepL K st S H vs0 ds0 → J.stop ds.length H
  yields : ∀ (S : Addr → Prop) (H : Hp) (i : Nat) (x : V) (H' : Hp), i < ds.length → RepL K st S H vs0 ds0 → J.yld i H x H' → ∃ d, ds[i]? = some d ∧ Chg noB H H' ∧ RepW pr K st S H' x d
def OutI (pr : Bool) (K : PySem.W.Frag) (st : Stx xi) (S : Addr → Prop) (H : Hp) (r : R (List D)) (Q : It → Hp → Prop) (E : XK) : Prop := match r with
  | .ok ds m' => ∀ J vs0 ds0 H', Chg (atSt st) H H' → Cov K st S H' m' → RepL K st S H' vs0 ds0 → WalkD pr K st J ds vs0 ds0 → Q J H'
  | .err c fs m' => ∀ dd fv H', Chg (atSt st) H H' → Cov K st S H' m' → H' dd = some (.xd fv) → H dd = none → RepF K st S H' fv fs → E (.ref (He.ga K c)) (some dd) H'
  | .bad => False
def TID (pr : Bool) (xi : XI) (K : PySem.W.Frag) (W : WX) (I : EV → M (List D)) : L2.TI := fun σ H Q => ∃ (st : Stx xi) (S : Addr → Prop) (ρ : EV) (m : SM), Cov K st S H m ∧ EnvR K st S H σ ρ ∧ OutI pr K st S H (I ρ m) Q (WE W σ)
structure SI (pr : Bool) (X : Cx) (W : WX) (tg e : Expr) (I : EV → M (List D)) : Prop where
  pi : PI X tg e (TID pr X.xi X.K W I)
theorem OutI.chg {pr : Bool} {K : PySem.W.Frag} {st : Stx xi} {S : Addr → Prop} {H H1 : Hp} {r : R (List D)} {Q : It → Hp → Prop} {E : XK} (o : OutI pr K st S H r Q E) (c : Chg (atSt st) H H1) : OutI pr K st S H1 r Q E := by
  cases r with
  | ok d m' => exact fun J v w H' c' => o J v w H' (c.trans c')
  | err k fs m' => exact fun dd fv H' c' cv h1 h2 => o dd fv H' (c.trans c') cv h1 (c.free h2)
  | bad => exact o
section
variable {X : Cx} {W : WX} {pos : Pos} {tg : Expr}
theorem TE.bindI {pr : Bool} {K : PySem.W.Frag} {F : EV → M D} {G : D → EV → M (List D)} {σ : L2.St} {H : Hp} {Q : It → Hp → Prop} {R : V → Hp → Prop} {st : Stx xi} {S : Addr → Prop} {ρ : EV} {m : SM}
    (cv : Cov K st S H m) (er : EnvR K st S H σ ρ) (o : OutI pr K st S H ((F ρ >>= fun d => G d ρ) m) Q (WE W σ))
    (k : ∀ v d m1 H1, F ρ m = .ok d m1 → Chg (atSt st) H H1 → Cov K st S H1 m1 → EnvR K st S H1 σ ρ → Rep K st S H1 v d → OutI pr K st S H1 (G d ρ m1) Q (WE W σ) → R v H1) : TE xi K W F σ H R := by
  refine ⟨st, S, ρ, m, cv, er, ?_⟩
  rw [bind_run] at o
  cases e : F ρ m with
  | ok d m1 =>
    rw [e] at o
    exact fun v H1 c cv1 r => k v d m1 H1 e c cv1 (er.mono c cv.sub) r (OutI.chg o c)
  | err c fs m1 => rw [e] at o; exact o
  | bad => rw [e] at o; exact o.elim
/-- the things of a list, a tuple, a text -/
def dIts : D → M (List D)
  | .lst xs => pure xs
  | .tup xs => pure xs
  | .scr ns => pure (ns.map .int)
  | .str z => pure (z.cps.toList.map fun c => .str ⟨#[c]⟩)
  | .rng i j => do need (decide (-(2 ^ 62) ≤ i ∧ i < 2 ^ 62 ∧ -(2 ^ 62) ≤ j ∧ j < 2 ^ 62)); pure ((List.range (j - i).toNat).map fun k => .int (i + (k : Nat)))
  | _ => M.bad
theorem walkD_list {K : PySem.W.Frag} {st : Stx xi} {a : Addr} {ds : List D} : WalkD false K st (Itl K a) ds [.ref a] [.lst ds] where
  goes := fun S H i hi r => by
    obtain ⟨v, e, rv⟩ := repL1 r
    cases e
    cases rv with
    | lst hn hs rr =>
      obtain ⟨v, h1, h2⟩ := rr.get (i := i) (d := ds[i]) (by simp [hi])
      exact ⟨_, v, SqL.of hs, h1⟩
  stops := fun S H r => by
    obtain ⟨v, e, rv⟩ := repL1 r
    cases e
    cases rv with
    | lst hn hs rr => exact ⟨_, SqL.of hs, by rw [rr.length]; exact Nat.le_refl _⟩
  yields := fun S H i x H' hi r y => by
    obtain ⟨v, e, rv⟩ := repL1 r
    cases e
    cases rv with
    | lst hn hs rr =>
      obtain ⟨e, y⟩ := y
      subst e
      obtain ⟨d, h1, h2⟩ := rr.getV (y _ (SqL.of hs))
      exact ⟨d, h1, Chg.refl _, h2⟩
theorem walkD_tup {K : PySem.W.Frag} {st : Stx xi} {a : Addr} {ds : List D} : WalkD false K st (Itt K a) ds [.ref a] [.tup ds] where
  goes := fun S H i hi r => by
    obtain ⟨v, e, rv⟩ := repL1 r
    cases e
    cases rv with
    | tup hs rr =>
      obtain ⟨v, h1, h2⟩ := rr.get (i := i) (d := ds[i]) (by simp [hi])
      exact ⟨_, v, hs.sq, h1⟩
  stops := fun S H r => by
    obtain ⟨v, e, rv⟩ := repL1 r
    cases e
    cases rv with
    | tup hs rr => exact ⟨_, hs.sq, by rw [rr.length]; exact Nat.le_refl _⟩
  yields := fun S H i x H' hi r y => by
    obtain ⟨v, e, rv⟩ := repL1 r
    cases e
    cases rv with
    | tup hs rr =>
      obtain ⟨e, y⟩ := y
      subst e
      obtain ⟨d, h1, h2⟩ := rr.getV (y _ hs.sq)
      exact ⟨d, h1, Chg.refl _, h2⟩
theorem walkD_scr {K : PySem.W.Frag} {st : Stx xi} {a : Addr} {ns : List Int} : WalkD false K st (Itl K a) (ns.map .int) [.ref a] [.scr ns] where
  goes := fun S H i hi r => by
    obtain ⟨v, e, rv⟩ := repL1 r
    cases e
    cases rv with
    | scr hs =>
      rw [List.length_map] at hi
      exact ⟨_, .int ns[i], hs.sq, by simp [hi]⟩
  stops := fun S H r => by
    obtain ⟨v, e, rv⟩ := repL1 r
    cases e
    cases rv with
    | scr hs => exact ⟨_, hs.sq, by simp⟩
  yields := fun S H i x H' hi r y => by
    obtain ⟨v, e, rv⟩ := repL1 r
    cases e
    cases rv with
    | scr hs =>
      obtain ⟨e, y⟩ := y
      subst e
      have q := y _ hs.sq
      rw [List.getElem?_map] at q
      obtain ⟨n, h1, h2⟩ := Option.map_eq_some_iff.mp q
      subst h2
      exact ⟨.int n, by rw [List.getElem?_map, h1]; rfl, Chg.refl _, Rep.int n⟩
theorem walkD_str {K : PySem.W.Frag} {st : Stx xi} {z : Str} : WalkD false K st (Its z) (z.cps.toList.map fun c => .str ⟨#[c]⟩) [] [] where
  goes := fun S H i hi r => (walk_str (z := z)).goes i H (by simpa using hi) trivial
  stops := fun S H r => by
    have := (walk_str (z := z)).stops H trivial
    simpa using this
  yields := fun S H i x H' hi r y => by
    obtain ⟨e, c, h1, h2⟩ := (walk_str (z := z)).yields i H x H' (by simpa using hi) trivial y
    subst e h2
    refine ⟨.str ⟨#[c]⟩, ?_, Chg.refl _, Rep.str _⟩
    rw [List.getElem?_map, Array.getElem?_toList, h1]; rfl
theorem walkD_range {K : PySem.W.Frag} {st : Stx xi} {lo : Int} {n : Nat} : WalkD false K st (Itr lo n) ((List.range n).map fun i => .int (lo + (i : Nat))) [] [] where
  goes := fun S H i hi r => by
    have hi' : i < n := by simpa using hi
    exact hi'
  stops := fun S H r => by show n ≤ _; simp
  yields := fun S H i x H' hi r y => by
    obtain ⟨e1, e2⟩ := y
    subst e1 e2
    have hi' : i < n := by simpa using hi
    exact ⟨.int (lo + i), by simp [hi'], Chg.refl _, Rep.int _⟩
/-- a range that is held, walked -/
theorem pi_rng {e : Expr} {te : L2.TE} (he : PE X e te) : PI X tg e (fun σ H R => te σ H fun v H1 => ∃ a lo hi, v = .ref a ∧ H1 a = some (.rng lo hi) ∧ (-(2 ^ 62) ≤ lo ∧ lo < 2 ^ 62 ∧ -(2 ^ 62) ≤ hi ∧ hi < 2 ^ 62) ∧ R (Itr lo (hi - lo).toNat) H1) := by
  constructor
  intro pins s σ H R I h
  apply thn (he.run pins s σ H _ I h)
  rintro v s1 ⟨x, H1, I1, r1, a, lo, hi, e1, ha, ⟨g1, g2, g3, g4⟩, q⟩
  subst e1
  cases r1
  obtain ⟨t, u, w, hg⟩ := (show ∃ t u v, s1.heap.get? a = some { cls := .type "range", data := .fields #[.int lo t, .int hi u, .int 1 v] } from I1.hok a _ ha)
  apply wpAny_pyIter_range (a := lo) (b := hi) (c := 1) (r := a) (t := t) (u := u) (v := w) hg (small_one g1 g2 g3 g4)
  refine ⟨_, [_], _, _, H1, rfl, I1.kept (t' := s1.toks) fun b o z => Heap.get?_push_of_some _ z, turn_range s1.heap.objs.size lo (hi - lo).toNat, ?_, ?_, q⟩
  · have k1 : (((hi - lo).toNat : Nat) : Int) - ((0 : Nat) : Int) = Builtin.Range.rangeSize lo hi 1 := by
      rw [rangeSize_one]
      split <;> omega
    have k2 : lo + ((0 : Nat) : Int) * 1 = lo := by omega
    show IsRangeIter _ _ (lo + ((0 : Nat) : Int) * 1) ((((hi - lo).toNat : Nat) : Int) - ((0 : Nat) : Int)) 1
    rw [k1, k2]
    exact Heap.get?_push_size _ rfl
  · intro b hb
    cases List.mem_singleton.mp hb
    exact I1.fpOk (Nat.le_refl _) (I1.hok.fresh (Nat.le_refl _))
/-- for x in e, e a list, a tuple or a text -/
theorem si_seq {e : Expr} {F : EV → M D} (h : SE X W e F) : SI false X W tg e (fun ρ => do let x ← F ρ; dIts x) := by
  refine ⟨⟨fun pins s σ H R I ⟨st, S, ρ, m, cv, er, o⟩ => ?_⟩⟩
  have key : ∀ (P : V → Hp → Prop), (∀ v d m1 H1, F ρ m = .ok d m1 → Cov X.K st S H1 m1 → Rep X.K st S H1 v d → OutI false X.K st S H1 (dIts d m1) R (WE W σ) → P v H1) → TE X.xi X.K W F σ H P := fun P hP =>
    TE.bindI (G := fun x _ => dIts x) cv er o fun v d m1 H1 e1 c1 cv1 er1 r1 o1 => hP v d m1 H1 e1 cv1 r1 o1
  cases e1 : F ρ m with
  | bad =>
    replace o : OutI false X.K st S H ((F ρ >>= fun x => dIts x) m) R (WE W σ) := o
    rw [bind_run, e1] at o; exact o.elim
  | err c fs m1 =>
    refine (pi_list (tg := tg) h.pe).run pins s σ H R I (key _ fun v d m2 H1 e2 _ _ _ => ?_)
    rw [e1] at e2; cases e2
  | ok d m1 =>
    cases d with
    | lst ds =>
      refine (pi_list (tg := tg) h.pe).run pins s σ H R I (key _ fun v d m2 H1 e2 cv1 r1 o1 => ?_)
      rw [e1] at e2; cases e2
      have r0 := r1
      cases r1 with
      | lst hn hs rr => exact ⟨_, rfl, ⟨_, SqL.of hs⟩, o1 _ _ _ H1 (Chg.refl _) cv1 (.cons r0 .nil) walkD_list⟩
    | tup ds =>
      refine (pi_tup (tg := tg) h.pe).run pins s σ H R I (key _ fun v d m2 H1 e2 cv1 r1 o1 => ?_)
      rw [e1] at e2; cases e2
      have r0 := r1
      cases r1 with
      | tup hs rr => exact ⟨_, rfl, ⟨_, hs.sq⟩, o1 _ _ _ H1 (Chg.refl _) cv1 (.cons r0 .nil) walkD_tup⟩
    | scr ns =>
      refine (pi_list (tg := tg) h.pe).run pins s σ H R I (key _ fun v d m2 H1 e2 cv1 r1 o1 => ?_)
      rw [e1] at e2; cases e2
      have r0 := r1
      cases r1 with
      | scr hs => exact ⟨_, rfl, ⟨_, hs.sq⟩, o1 _ _ _ H1 (Chg.refl _) cv1 (.cons r0 .nil) walkD_scr⟩
    | str z =>
      refine (pi_str (tg := tg) h.pe).run pins s σ H R I (key _ fun v d m2 H1 e2 cv1 r1 o1 => ?_)
      rw [e1] at e2; cases e2
      cases r1 with
      | str z => exact ⟨_, rfl, o1 _ _ _ H1 (Chg.refl _) cv1 .nil walkD_str⟩
    | rng i j =>
      refine (pi_rng (tg := tg) h.pe).run pins s σ H R I (key _ fun v d m2 H1 e2 cv1 r1 o1 => ?_)
      rw [e1] at e2; cases e2
      cases r1 with
      | rng hs =>
        obtain ⟨hn, o2⟩ := out_need (P := fun r => OutI false X.K st S H1 r R (WE W σ)) (fun z => z) o1
        have hn := of_decide_eq_true hn
        exact ⟨_, i, j, rfl, hs, hn, o2 _ _ _ H1 (Chg.refl _) cv1 .nil walkD_range⟩
    | _ =>
      refine (pi_list (tg := tg) h.pe).run pins s σ H R I (key _ fun v d m2 H1 e2 cv1 r1 o1 => ?_)
      rw [e1] at e2; cases e2
      exact o1.elim
def dRange : List D → M (List D)
  | [.int j] => do need (decide (-(2 ^ 62) ≤ j ∧ j < 2 ^ 62)); pure ((List.range j.toNat).map fun i => .int (i : Nat))
  | [.int i, .int j] => do need (decide (-(2 ^ 62) ≤ i ∧ i < 2 ^ 62 ∧ -(2 ^ 62) ≤ j ∧ j < 2 ^ 62)); pure ((List.range (j - i).toNat).map fun k => .int (i + (k : Nat)))
  | _ => M.bad
theorem TAD.bindI {pr : Bool} {K : PySem.W.Frag} {A : EV → M (List D)} {G : List D → M (List D)} {σ : L2.St} {H : Hp} {Q : It → Hp → Prop} {R : List V → Hp → Prop} {st : Stx xi} {S : Addr → Prop} {ρ : EV} {m : SM}
    (cv : Cov K st S H m) (er : EnvR K st S H σ ρ) (o : OutI pr K st S H ((A ρ >>= fun d => G d) m) Q (WE W σ))
    (k : ∀ vs ds m1 H1, Chg (atSt st) H H1 → Cov K st S H1 m1 → EnvR K st S H1 σ ρ → RepL K st S H1 vs ds → OutI pr K st S H1 (G ds m1) Q (WE W σ) → R vs H1) : TAD xi K W A σ H R := by
  refine ⟨st, S, ρ, m, cv, er, ?_⟩
  rw [bind_run] at o
  cases e : A ρ m with
  | ok d m1 =>
    rw [e] at o
    exact fun v H1 c cv1 r => k v d m1 H1 c cv1 (er.mono c cv.sub) r (OutI.chg o c)
  | err c fs m1 => rw [e] at o; exact o
  | bad => rw [e] at o; exact o.elim
theorem PI.imp {e : Expr} {t t' : L2.TI} (h : PI X tg e t) (i : ∀ σ H Q, t' σ H Q → t σ H Q) : PI X tg e t' := ⟨fun pins s σ H Q I q => h.run pins s σ H Q I (i σ H Q q)⟩
theorem si_range1 {a : Expr} {p : Pos} {A : EV → M (List D)} (hg : Gl X "range") (hm : X.mg "range" = none) (ha : SA X W [a] A) (hs : starEach [a] X.env = [(false, eval a X.env)] := by rfl) : SI false X W tg (.Call (.Name "range" p) [a] [] pos) (fun ρ => do let ds ← A ρ; need (decide (ds.length = 1)); dRange ds) := by
  refine ⟨PI.imp (pi_range1 hg hm ha.pa hs) fun σ H Q ⟨st, S, ρ, m, cv, er, o⟩ => ?_⟩
  refine TAD.bindI (G := fun ds => do need (decide (ds.length = 1)); dRange ds) cv er o fun vs ds m1 H1 c1 cv1 er1 r1 o1 => ?_
  obtain ⟨hl, o2⟩ := out_need (P := fun r => OutI false X.K st S H1 r Q (WE W σ)) (fun z => z) o1
  clear o1
  have hl := of_decide_eq_true hl
  match ds, hl with
  | [d], _ =>
    obtain ⟨v, rfl, rv⟩ := repL1 r1
    cases d with
    | int j =>
      obtain ⟨h, o3⟩ := out_need (P := fun r => OutI false X.K st S H1 r Q (WE W σ)) (fun z => z) o2
      cases rv
      have h' := of_decide_eq_true h
      refine ⟨j, rfl, h'.1, h'.2, o3 _ _ _ H1 (Chg.refl _) cv1 .nil ?_⟩
      have w := walkD_range (K := X.K) (st := st) (lo := 0) (n := j.toNat)
      simpa using w
    | _ => exact o2.elim
end
abbrev W0 : WX := fun _ _ _ _ => False
def noErr {α : Type} (x : M α) : M α := fun m => match x m with
  | .ok a m' => .ok a m'
  | _ => .bad
/-- a block's own name is bound; two are -/
def eName (i : Nat) : D → EV → Option EV := fun d ρ => some (ρ.set i (some d))
def ePair (i j : Nat) : D → EV → Option EV
  | .tup [a, b], ρ => some ((ρ.set i (some a)).set j (some b))
  | _, _ => none
def bindE (bnd : D → EV → Option EV) (d : D) (ρ : EV) : M EV := match bnd d ρ with
  | some r => pure r
  | none => M.bad
/-- [E for i in ds if C] -/
def compL (bnd : D → EV → Option EV) (C : EV → M Bool) (E : EV → M D) (ρ : EV) : List D → M (List D)
  | [] => pure []
  | d :: ds => do
    let ρ1 ← bindE bnd d ρ
    let b ← noErr (C ρ1)
    if b = true then (do
      let y ← noErr (E ρ1)
      let r ← compL bnd C E ρ ds
      pure (y :: r)) else compL bnd C E ρ ds
theorem noErr_cases {α : Type} (x : M α) (m : SM) : (∃ a m', x m = .ok a m' ∧ noErr x m = .ok a m') ∨ noErr x m = .bad := by
  unfold noErr
  cases e : x m with
  | ok b m2 => exact .inl ⟨b, m2, rfl, rfl⟩
  | err c fs m2 => exact .inr rfl
  | bad => exact .inr rfl
def compV (bnd : D → EV → Option EV) (I : EV → M (List D)) (C : EV → M Bool) (E : EV → M D) (ρ : EV) : M (List D) := do
  let ds ← I ρ
  lim ds.length
  compL bnd C E ρ ds
/-- tests of a clause -/
structure STs (X : Cx) (W : WX) (ifs : List Expr) (C : EV → M Bool) : Prop where
  pt : PTs X ifs (TT X.xi X.K W C)
theorem sts_nil {X : Cx} {W : WX} : STs X W [] (fun _ => pure true) := ⟨⟨fun pins s σ H Q I ⟨st, S, ρ, m, cv, er, o⟩ => pts_nil.run pins s σ H Q I (o H (Chg.refl H) cv)⟩⟩
theorem sts_one {X : Cx} {W : WX} {c : Expr} {C : EV → M Bool} (h : ST X W c C) : STs X W [c] C := ⟨pts_one h.pt⟩
theorem EnvR.set {K : PySem.W.Frag} {st : Stx xi} {S : Addr → Prop} {H : Hp} {σ σ' : L2.St} {ρ : EV} {i : Nat} {v : V} {d : D} (e : EnvR K st S H σ ρ) (r : Rep K st S H v d) (h1 : ∀ j, j ≠ i → σ'[j]? = σ[j]?) (h2 : i < σ.length → σ'[i]? = some (some v)) : i < σ.length → EnvR K st S H σ' (ρ.set i (some d)) := fun hi => by
  refine ⟨fun j u h => ?_⟩
  by_cases hj : j = i
  · subst hj
    have hl : j < ρ.length := by
      have := (List.getElem?_eq_some_iff.mp h).1
      simpa using this
    rw [List.getElem?_set_self hl] at h
    cases h
    exact ⟨v, h2 hi, r⟩
  · rw [List.getElem?_set_ne (Ne.symm hj)] at h
    obtain ⟨u', e1, e2⟩ := e.at_ j u h
    exact ⟨u', (h1 j hj).trans e1, e2⟩
/-- what binding does in the machine, in a block -/
def BndE (pr : Bool) (K : PySem.W.Frag) (g : TG) (vs : List Nat) (bnd : D → EV → Option EV) : Prop := ∀ {xi : XI} (st : Stx xi) (S : Addr → Prop) (H : Hp) (σ : L2.St) (ρ ρ1 : EV) (v : V) (d : D) (Q : L2.St → Hp → Prop), (∀ i ∈ vs, i < σ.length) → EnvR K st S H σ ρ → RepW pr K st S H v d → bnd d ρ = some ρ1 →
  (∀ σ2, wipe σ2 vs = wipe σ vs → EnvR K st S H σ2 ρ1 → Q σ2 H) → g v (wipe σ vs) H Q
theorem bndE_name {K : PySem.W.Frag} {i : Nat} : BndE false K (gName i) [i] (eName i) := fun st S H σ ρ ρ1 v d Q hl e r h q => by
  cases h
  refine q _ (by simp [wipe]) (EnvR.set (σ := σ) e r (fun k hk => ?_) (fun hk => ?_) (hl i (by simp)))
  · simp [wipe, List.getElem?_set_ne (Ne.symm hk)]
  · simp [wipe, hk]
theorem bndE_pair {K : PySem.W.Frag} {i j : Nat} (hij : i ≠ j) : BndE true K (gTup K 2 (gCons (gName i) (gCons (gName j) gNil))) [i, j] (ePair i j) := fun st S H σ ρ ρ1 v d Q hl e r h q => by
  obtain ⟨T, x, y, d1, d2, e1, e2, hq, r1, r2⟩ := r
  subst e1 e2
  cases h
  refine ⟨T, [x, y], rfl, hq, rfl, x, [y], rfl, y, [], rfl, rfl, q _ ?_ ?_⟩
  · refine List.ext_getElem? fun k => ?_
    have l1 := hl i (by simp)
    have l2 := hl j (by simp)
    simp only [wipe]
    by_cases h1 : j = k
    · by_cases h2 : i = k
      · exact absurd (h2.trans h1.symm) hij
      · simp [List.getElem?_set, h1, h2]
    · by_cases h2 : i = k
      · simp [List.getElem?_set, h1, h2]
      · simp [List.getElem?_set, h1, h2]
  · have e1 : EnvR K st S H (σ.set i (some x)) (ρ.set i (some d1)) := EnvR.set (σ := σ) e r1 (fun k hk => by simp [List.getElem?_set_ne (Ne.symm hk)]) (fun hk => by simp [hk]) (hl i (by simp))
    have lj : j < (σ.set i (some x)).length := by simpa using hl j (by simp)
    have e2 : EnvR K st S H ((σ.set i (some x)).set j (some y)) ((ρ.set i (some d1)).set j (some d2)) := EnvR.set (σ := σ.set i (some x)) e1 r2 (fun k hk => by simp [List.getElem?_set_ne (Ne.symm hk)]) (fun _ => List.getElem?_set_self lj) lj
    refine ⟨fun k u hu => ?_⟩
    obtain ⟨w, h1, h2⟩ := e2.at_ k u hu
    refine ⟨w, ?_, h2⟩
    rw [← h1]
    simp only [wipe]
    have l1 := hl i (by simp)
    have l2 := hl j (by simp)
    by_cases h3 : j = k
    · simp [List.getElem?_set, h3, l2]
    · by_cases h4 : i = k
      · simp [List.getElem?_set, h3, h4, l1]
      · simp [List.getElem?_set, h3, h4]
/-- a comprehension's reading -/
theorem lc_imp {pr : Bool} {K : PySem.W.Frag} {W : WX} {I : EV → M (List D)} {C : EV → M Bool} {E : EV → M D} {bnd : D → EV → Option EV} {g : TG} {vs : List Nat} {σ : L2.St} {H : Hp} {Q : VK} (hi : ∀ i ∈ vs, i < σ.length) (hb : BndE pr K g vs bnd) (h : TF xi K W (compV bnd I C E) σ H Q) : tLc (TID pr xi K W I) g (TT xi K W0 C) (TE xi K W0 E) vs σ H Q := by
  obtain ⟨st, S, ρ, m, cv, er, o⟩ := h
  refine ⟨st, S, ρ, m, cv, er, ?_⟩
  unfold compV at o
  rw [bind_run] at o
  cases e : I ρ m with
  | bad => rw [e] at o; exact o.elim
  | err c fs m1 => rw [e] at o; exact o
  | ok ds m1 =>
    rw [e] at o
    intro J vs0 ds0 H1 c1 cv1 r0 wd P hP
    obtain ⟨hz, o1⟩ := out_lim (P := fun r => OutF K st S H r Q (WE W σ)) (fun z => z) o
    clear o e
    have er1 : EnvR K st S H1 σ ρ := er.mono c1 cv.sub
    have o2 : OutF K st S H1 (compL bnd C E ρ ds m1) Q (WE W σ) := OutF.chg o1 c1
    clear o1
    have hPS : ¬ S P := cv1.out hP
    -- what is avoided within: the new list too
    refine ⟨fun j n Hc => n = ds.length - j ∧ j ≤ ds.length ∧ ∃ acc accD mm, Chg (fun a => atSt st a ∨ a = P) (upd H1 P (.lst [])) Hc ∧ Cov K st S Hc mm ∧ Hc P = some (.lst acc) ∧ RepL K st (fun a => S a ∨ a = P) Hc acc accD ∧
      EnvR K st (fun a => S a ∨ a = P) Hc σ ρ ∧ RepL K st (fun a => S a ∨ a = P) Hc vs0 ds0 ∧ acc.length ≤ j ∧ OutF K st S H1 ((compL bnd C E ρ (ds.drop j) >>= fun r => pure (accD ++ r)) mm) Q (WE W σ), ?_, ?_⟩
    · have hw : ∀ a, (S a ∨ a = P) → S a ∨ H1 a = none := fun a z => z.imp id fun q => by rw [q]; exact hP
      refine ⟨ds.length, by simp, Nat.zero_le _, [], [], m1, Chg.refl _, cv1.new hP, upd_same, .nil, (er1.wide hw).mono (Chg.new (B := noB) hP) fun _ z => z.elim, (r0.wide hw).new hP, Nat.le_refl _, ?_⟩
      rw [List.drop_zero]
      show OutF K st S H1 ((compL bnd C E ρ ds >>= fun r => pure r) m1) Q (WE W σ)
      rw [bind_pure]
      exact o2
    · rintro j n Hc ⟨rfl, hj, acc, accD, mm, cc, cvc, hac, rac, erc, r0c, hlen, oc⟩
      have nSt : ∀ {P' : Prop}, atSt st P → P' := fun z => (hPS (cv1.sub P z)).elim
      by_cases hlt : j < ds.length
      · refine .inr ⟨wd.goes _ Hc j hlt r0c, _, fun H' p' => ⟨ds.length - (j + 1), by omega, rfl, hlt, p'⟩, fun x H' y => ?_⟩
        obtain ⟨d, hd, cy, rx⟩ := wd.yields _ Hc j x H' hlt r0c y
        have hdrop : ds.drop j = d :: ds.drop (j + 1) := by
          obtain ⟨h1, h2⟩ := List.getElem?_eq_some_iff.mp hd
          rw [← h2, List.drop_eq_getElem_cons h1]
        rw [hdrop] at oc
        have dom' : ∀ a, (S a ∨ a = P) → Hc a ≠ none := fun a z => z.elim (cvc.dom a) fun q => by rw [q, hac]; simp
        have cvw : Cov K st (fun a => S a ∨ a = P) H' mm := (cvc.wide (fun a z => .inl z) dom').keep cy fun _ z => z.elim
        have sub' : ∀ a, atSt st a → S a ∨ a = P := fun a z => .inl (cvc.sub a z)
        rw [compL, bind_assoc, bind_run] at oc
        cases hbn : bnd d ρ with
        | none => rw [show bindE bnd d ρ mm = R.bad from by unfold bindE; rw [hbn]; rfl] at oc; exact oc.elim
        | some ρ1 =>
        rw [show bindE bnd d ρ mm = R.ok ρ1 mm from by unfold bindE; rw [hbn]; rfl] at oc
        replace oc : OutF K st S H1 (((noErr (C ρ1) >>= fun b => if b = true then (noErr (E ρ1) >>= fun y => compL bnd C E ρ (ds.drop (j + 1)) >>= fun r => pure (y :: r)) else compL bnd C E ρ (ds.drop (j + 1))) >>= fun r => pure (accD ++ r)) mm) Q (WE W σ) := oc
        refine hb st _ H' σ ρ ρ1 x d _ hi (erc.mono cy fun _ z => z.elim) rx hbn fun σ2 hw2 ery => ?_
        refine ⟨hw2, ?_⟩
        refine ⟨st, _, ρ1, mm, cvw, ery, ?_⟩
        rw [bind_assoc, bind_run] at oc
        rcases noErr_cases (C ρ1) mm with ⟨b, m2, e1, e2⟩ | e2
        · rw [e2] at oc
          rw [e1]
          intro H3 c3 cv3
          have c13 : Chg (fun a => atSt st a ∨ a = P) Hc H3 := (cy.mono fun _ z => z.elim).trans (c3.mono fun _ z => .inl z)
          have cvS3 : Cov K st S H3 m2 := cvc.swap c13 cv3
          have hac3 : H3 P = some (.lst acc) := c3.keep (cy.keep hac (.inr fun z => z)) (.inr fun z => nSt z)
          have B3 : ∀ a, (atSt st a ∨ a = P) → S a ∨ a = P := fun a z => z.imp (cvc.sub a) id
          cases b with
          | false =>
            exact ⟨acc, accD, m2, cc.trans c13, cvS3, hac3, rac.mono c13 B3 fun _ z => z, erc.mono c13 B3, r0c.mono c13 B3 fun _ z => z, Nat.le_succ_of_le hlen, oc⟩
          | true =>
            replace oc : OutF K st S H1 (((noErr (E ρ1) >>= fun y => compL bnd C E ρ (ds.drop (j + 1)) >>= fun r => pure (y :: r)) >>= fun r => pure (accD ++ r)) m2) Q (WE W σ) := oc
            simp only [bind_assoc, pure_bind] at oc
            refine ⟨st, _, ρ1, m2, cv3, ery.mono c3 sub', ?_⟩
            rw [bind_run] at oc
            rcases noErr_cases (E ρ1) m2 with ⟨yD, m3, e3, e4⟩ | e4
            · rw [e4] at oc
              rw [e3]
              intro yv H4 c4 cv4 ry
              have c14 : Chg (fun a => atSt st a ∨ a = P) Hc H4 := c13.trans (c4.mono fun _ z => .inl z)
              have hac4 : H4 P = some (.lst acc) := c4.keep hac3 (.inr fun z => nSt z)
              have cw : Chg (fun a => a = P) H4 (upd H4 P (.lst (acc ++ [yv]))) := Chg.write hac4 rfl rfl
              have c15 : Chg (fun a => atSt st a ∨ a = P) Hc (upd H4 P (.lst (acc ++ [yv]))) := c14.trans (cw.mono fun _ z => .inr z)
              refine ⟨acc, hac4, by omega, acc ++ [yv], accD ++ [yD], m3, cc.trans c15, ?_, upd_same, (rac.mono c15 B3 fun _ z => z).append (.cons (ry.mono cw (fun a z => .inr z) fun _ z => z) .nil), erc.mono c15 B3, r0c.mono c15 B3 fun _ z => z, ?_, ?_⟩
              · exact (cvc.swap c14 cv4).keep cw fun a z => by rw [z]; exact hPS
              · rw [List.length_append]; simp; omega
              · simp only [List.append_assoc, List.singleton_append]
                exact oc
            · rw [e4] at oc; exact oc.elim
        · rw [e2] at oc; exact oc.elim
      · have ej : j = ds.length := by omega
        subst ej
        refine .inl ⟨wd.stops _ Hc r0c, ?_⟩
        rw [List.drop_length, compL, pure_bind, List.append_nil] at oc
        have cf : Chg (atSt st) H1 Hc := fun a u e => by
          have ne : a ≠ P := ne_of_none e hP
          rcases cc a u (by rw [upd_ne ne]; exact e) with q | ⟨q, r⟩
          · exact .inl q
          · exact .inr ⟨q.elim id fun z => (ne z).elim, r⟩
        exact oc P acc Hc hP cf cvc hac rac
section
variable {X : Cx} {W : WX} {pos : Pos}
/-- [E for .. in iter if C] as a value -/
theorem sf_lcG {pr : Bool} {bnd : D → EV → Option EV} {g : TG} {own : List (Str × Nat)} {elt tg iter : Expr} {ifs : List Expr} {scope : Scope} {I : EV → M (List D)} {C : EV → M Bool} {E : EV → M D} (hc : X.calm = true) (hN : X.N.Nodup) (hi : ∀ i ∈ own.map (·.2), i < X.N.length) (hI : SI pr X W tg iter I) (ok : BlkOk X.N X.env.scope scope own)
    (hb : BndE pr X.K g (own.map (·.2)) bnd)
    (hg : ∀ (s : Shared) (H : Hp) (C : Addr) (cl : List (Str × Addr)) (fp : List Addr), PG (X.blk s H scope (compEnvC scope cl C X.env) fp) tg g)
    (ht : ∀ (s : Shared) (H : Hp) (D : Addr) (cl : List (Str × Addr)) (fp : List Addr), STs (X.blk s H scope (compEnvC scope cl D X.env) fp) W0 ifs C)
    (he : ∀ (s : Shared) (H : Hp) (D : Addr) (cl : List (Str × Addr)) (fp : List Addr), SE (X.blk s H scope (compEnvC scope cl D X.env) fp) W0 elt E) (hs : ∀ x, foldedSetIterable iter X.env x = pure x := by intro _; rfl) :
    SF X W (.ListComp elt [⟨tg, iter, ifs, 0⟩] scope pos) (compV bnd I C E) := by
  refine ⟨⟨fun pins s σ H Q Iv q => ?_⟩⟩
  have e0 := Iv.ok.hd hc
  rw [xi_none e0] at q
  refine (pe_lc (own := own) (tt := TT none X.K W0 C) (te := TE none X.K W0 E) (g := g) hc hN hI.pi ok hg (fun s H D cl fp => by have z := (ht s H D cl fp).pt; rw [xi_none (show (X.blk s H scope (compEnvC scope cl D X.env) fp).A.handled = none from e0)] at z; exact z) (fun s H D cl fp => by have z := (he s H D cl fp).pe; rw [xi_none (show (X.blk s H scope (compEnvC scope cl D X.env) fp).A.handled = none from e0)] at z; exact z) hs).run pins s σ H Q Iv ?_
  rw [xi_none e0]
  exact lc_imp (by rw [Iv.len]; exact hi) hb q
theorem sf_lc {i : Nat} {x : Str} {px : Pos} {elt iter : Expr} {ifs : List Expr} {scope : Scope} {I : EV → M (List D)} {C : EV → M Bool} {E : EV → M D} (hc : X.calm = true) (hN : X.N.Nodup) (hi : i < X.N.length) (hI : SI false X W (.Name x px) iter I) (ok : BlkOk X.N X.env.scope scope [(x, i)])
    (hg : ∀ (s : Shared) (H : Hp) (C : Addr) (cl : List (Str × Addr)) (fp : List Addr), PG (X.blk s H scope (compEnvC scope cl C X.env) fp) (.Name x px) (gName i))
    (ht : ∀ (s : Shared) (H : Hp) (D : Addr) (cl : List (Str × Addr)) (fp : List Addr), STs (X.blk s H scope (compEnvC scope cl D X.env) fp) W0 ifs C)
    (he : ∀ (s : Shared) (H : Hp) (D : Addr) (cl : List (Str × Addr)) (fp : List Addr), SE (X.blk s H scope (compEnvC scope cl D X.env) fp) W0 elt E) (hs : ∀ x, foldedSetIterable iter X.env x = pure x := by intro _; rfl) :
    SF X W (.ListComp elt [⟨.Name x px, iter, ifs, 0⟩] scope pos) (compV (eName i) I C E) :=
  sf_lcG (own := [(x, i)]) hc hN (by simpa using hi) hI ok bndE_name hg ht he hs
end
end Den
set_option Elab.async false
set_option linter.all false
set_option maxRecDepth 100000
set_option maxHeartbeats 4000000
namespace Den
open PySem PySem.Spec PyProof.Rows L2
inductive Sl where
  | no | va (d : D) | ow (xs : List D) | ob (c : Str) (fs : List (Str × D))
abbrev SV := List Sl
inductive Fl where
  | nx (ρ : SV) | rt (d : D) | rf (ds : List D) | bk (ρ : SV) | ct (ρ : SV) | ex (c : Str) (fs : List (Str × D)) (ρ : SV)
def Sl.isOwn : Sl → Bool
  | .ow _ => true
  | .ob _ _ => true
  | _ => false
def OwnAt (ρ : SV) (σ : L2.St) (i : Nat) (a : Addr) : Prop := (∃ s, ρ[i]? = some s ∧ s.isOwn = true) ∧ σ[i]? = some (some (.ref a))
def Own (ρ : SV) (σ : L2.St) (a : Addr) : Prop := ∃ i, OwnAt ρ σ i a
abbrev Av (S : Addr → Prop) (ρ : SV) (σ : L2.St) : Addr → Prop := fun a => S a ∨ Own ρ σ a
structure EnvS (K : PySem.W.Frag) (st : Stx xi) (S : Addr → Prop) (H0 H : Hp) (σ : L2.St) (ρ : SV) : Prop where
  va : ∀ (i : Nat) (d : D), ρ[i]? = some (.va d) → ∃ v, σ[i]? = some (some v) ∧ Rep K st (Av S ρ σ) H v d
  ow : ∀ (i : Nat) (xs : List D), ρ[i]? = some (.ow xs) → ∃ a vs, σ[i]? = some (some (.ref a)) ∧ H a = some (.lst vs) ∧ H0 a = none ∧ RepL K st (Av S ρ σ) H vs xs
  ob : ∀ (i : Nat) (c : Str) (fs : List (Str × D)), ρ[i]? = some (.ob c fs) → ∃ a dx fv, σ[i]? = some (some (.ref a)) ∧ H a = some (.ins (He.ga K c) dx fv) ∧ H0 a = none ∧ RepF K st (Av S ρ σ) H fv fs
  dis : ∀ (i j : Nat) (a : Addr), OwnAt ρ σ i a → OwnAt ρ σ j a → i = j
  len : σ.length = ρ.length
section
variable {K : PySem.W.Frag} {st : Stx xi} {S : Addr → Prop} {H0 H H' : Hp} {σ : L2.St} {ρ : SV}
/-- an own thing stands in the heap, was not there at the entry -/
theorem EnvS.own (e : EnvS K st S H0 H σ ρ) {i : Nat} {a : Addr} (o : OwnAt ρ σ i a) : (∃ u, H a = some u ∧ isMut u = true) ∧ H0 a = none := by
  obtain ⟨⟨s, h1, h2⟩, h3⟩ := o
  cases s with
  | no => cases h2
  | va d => cases h2
  | ow xs =>
    obtain ⟨b, vs, g1, g2, g3, _⟩ := e.ow i xs h1
    rw [h3] at g1; cases g1
    exact ⟨⟨_, g2, rfl⟩, g3⟩
  | ob c fs =>
    obtain ⟨b, dx, vs, g1, g2, g3, _⟩ := e.ob i c fs h1
    rw [h3] at g1; cases g1
    exact ⟨⟨_, g2, rfl⟩, g3⟩
/-- what one keeps of the entry -/
structure Kept (K : PySem.W.Frag) (st : Stx xi) (S : Addr → Prop) (H0 H : Hp) (m : SM) : Prop where
  cov : Cov K st S H m
  dom0 : ∀ a, S a → H0 a ≠ none
  chg : Chg (atSt st) H0 H
theorem Kept.not (k : Kept K st S H0 H m) {a : Addr} (h : H0 a = none) : ¬ S a := fun z => k.dom0 a z h
/-- a view: own things are seen where the mask says so -/
def Sl.see : Sl → Bool → Option D
  | .va d, _ => some d
  | .ow xs, true => some (.lst xs)
  | .ob c fs, true => some (.obj c fs)
  | _, _ => none
def vw : List Bool → SV → EV
  | _, [] => []
  | [], s :: ρ => s.see false :: vw [] ρ
  | b :: bs, s :: ρ => s.see b :: vw bs ρ
theorem vw_at : ∀ (mk : List Bool) (ρ : SV) (i : Nat), (vw mk ρ)[i]? = (ρ[i]?).map fun s => s.see (mk.getD i false)
  | _, [], i => by simp [vw]
  | [], s :: ρ, 0 => by simp [vw]
  | [], s :: ρ, i + 1 => by simpa [vw] using vw_at [] ρ i
  | b :: bs, s :: ρ, 0 => by simp [vw]
  | b :: bs, s :: ρ, i + 1 => by simpa [vw] using vw_at bs ρ i
/-- what a view avoids -/
def AvM (S : Addr → Prop) (mk : List Bool) (ρ : SV) (σ : L2.St) : Addr → Prop := fun a => S a ∨ ∃ i, OwnAt ρ σ i a ∧ mk.getD i false = false
theorem AvM.sub {mk : List Bool} : ∀ a, AvM S mk ρ σ a → Av S ρ σ a := fun a z => z.imp id fun ⟨i, o, _⟩ => ⟨i, o⟩
theorem AvM.nil : ∀ a, Av S ρ σ a → AvM S [] ρ σ a := fun a z => z.imp id fun ⟨i, o⟩ => ⟨i, o, by simp⟩
theorem EnvS.view (e : EnvS K st S H0 H σ ρ) (hS : ∀ a, S a → H0 a ≠ none) (mk : List Bool) : EnvR K st (AvM S mk ρ σ) H σ (vw mk ρ) := by
  refine ⟨fun i d h => ?_⟩
  rw [vw_at] at h
  obtain ⟨s, h1, h2⟩ := Option.map_eq_some_iff.mp h
  have no : ∀ a, OwnAt ρ σ i a → mk.getD i false = true → H0 a = none → ¬ AvM S mk ρ σ a := fun a o hm h0 z => by
    rcases z with z | ⟨j, oj, hj⟩
    · exact hS a z h0
    · rw [e.dis j i a oj o, hm] at hj; cases hj
  cases s with
  | no => cases h2
  | va d' =>
    cases h2
    obtain ⟨v, g1, g2⟩ := e.va i d h1
    exact ⟨v, g1, g2.mono (B := noB) (Chg.refl H) (fun _ z => z.elim) AvM.sub⟩
  | ow xs =>
    cases hm : mk.getD i false with
    | false => rw [hm] at h2; cases h2
    | true =>
      rw [hm] at h2; cases h2
      obtain ⟨a, vs, g1, g2, g3, g4⟩ := e.ow i xs h1
      exact ⟨_, g1, .lst (no a ⟨⟨_, h1, rfl⟩, g1⟩ hm g3) g2 (g4.mono (B := noB) (Chg.refl H) (fun _ z => z.elim) AvM.sub)⟩
  | ob c fs =>
    cases hm : mk.getD i false with
    | false => rw [hm] at h2; cases h2
    | true =>
      rw [hm] at h2; cases h2
      obtain ⟨a, dx, fv, g1, g2, g3, g4⟩ := e.ob i c fs h1
      exact ⟨_, g1, .obj (no a ⟨⟨_, h1, rfl⟩, g1⟩ hm g3) g2 (g4.mono (B := noB) (Chg.refl H) (fun _ z => z.elim) AvM.sub)⟩
theorem Kept.view {m : SM} (k : Kept K st S H0 H m) (e : EnvS K st S H0 H σ ρ) (mk : List Bool) : Cov K st (AvM S mk ρ σ) H m :=
  k.cov.wide (fun a z => .inl z) fun a z => z.elim (k.cov.dom a) fun ⟨i, o, _⟩ => by
    obtain ⟨⟨u, h, _⟩, _⟩ := e.own o
    rw [h]; simp
/-- behind an expression, the slots as they were -/
theorem EnvS.after {m : SM} (k : Kept K st S H0 H m) (e : EnvS K st S H0 H σ ρ) (c : Chg (atSt st) H H') : EnvS K st S H0 H' σ ρ := by
  have sub : ∀ a, atSt st a → Av S ρ σ a := fun a z => .inl (k.cov.sub a z)
  have nst : ∀ a, H0 a = none → ¬ atSt st a := fun a h z => k.not h (k.cov.sub a z)
  refine ⟨fun i d h => ?_, fun i xs h => ?_, fun i cn fs h => ?_, e.dis, e.len⟩
  · obtain ⟨v, g1, g2⟩ := e.va i d h
    exact ⟨v, g1, g2.mono c sub fun _ z => z⟩
  · obtain ⟨a, vs, g1, g2, g3, g4⟩ := e.ow i xs h
    exact ⟨a, vs, g1, c.keep g2 (.inr (nst a g3)), g3, g4.mono c sub fun _ z => z⟩
  · obtain ⟨a, dx, fv, g1, g2, g3, g4⟩ := e.ob i cn fs h
    exact ⟨a, dx, fv, g1, c.keep g2 (.inr (nst a g3)), g3, g4.mono c sub fun _ z => z⟩
theorem Kept.after {m m' : SM} {S' : Addr → Prop} (k : Kept K st S H0 H m) (c : Chg (atSt st) H H') (cv : Cov K st S' H' m') : Kept K st S H0 H' m' := ⟨k.cov.swap c cv, k.dom0, k.chg.trans c⟩
/-- what was represented stays so; an own instance stays where it is -/
structure Pers (K : PySem.W.Frag) (st : Stx xi) (S : Addr → Prop) (H : Hp) (σ : L2.St) (ρ : SV) (H' : Hp) (σ' : L2.St) (ρ' : SV) : Prop where
  rep : ∀ (v : V) (d : D), Rep K st (Av S ρ σ) H v d → Rep K st (Av S ρ' σ') H' v d
  obs : ∀ (i : Nat) (c : Str) (fs : List (Str × D)), ρ'[i]? = some (.ob c fs) → (∃ gs, ρ[i]? = some (.ob c gs)) ∧ σ'[i]? = σ[i]?
theorem Pers.refl : Pers K st S H σ ρ H σ ρ := ⟨fun _ _ r => r, fun _ _ fs h => ⟨⟨fs, h⟩, rfl⟩⟩
theorem Pers.trans {H1 H2 : Hp} {σ1 σ2 : L2.St} {ρ1 ρ2 : SV} (a : Pers K st S H σ ρ H1 σ1 ρ1) (b : Pers K st S H1 σ1 ρ1 H2 σ2 ρ2) : Pers K st S H σ ρ H2 σ2 ρ2 := ⟨fun v d r => b.rep v d (a.rep v d r), fun i c fs h => by
  obtain ⟨⟨gs, h1⟩, h2⟩ := b.obs i c fs h
  obtain ⟨h3, h4⟩ := a.obs i c gs h1
  exact ⟨h3, h2.trans h4⟩⟩
theorem Pers.list {H1 : Hp} {σ1 : L2.St} {ρ1 : SV} (a : Pers K st S H σ ρ H1 σ1 ρ1) : ∀ {vs : List V} {ds : List D}, RepL K st (Av S ρ σ) H vs ds → RepL K st (Av S ρ1 σ1) H1 vs ds
  | _, _, .nil => .nil
  | _, _, .cons r t => .cons (a.rep _ _ r) (Pers.list a t)
theorem Pers.after {m : SM} (k : Kept K st S H0 H m) (c : Chg (atSt st) H H') : Pers K st S H σ ρ H' σ ρ := ⟨fun v d r => r.mono c (fun a z => .inl (k.cov.sub a z)) fun _ z => z, fun _ _ fs h => ⟨⟨fs, h⟩, rfl⟩⟩
/-- a slot that does not hold an instance is stored -/
theorem obs_set {i : Nat} {s : Sl} {v : Option V} (hs : ∀ c fs, s ≠ .ob c fs) (j : Nat) (c : Str) (fs : List (Str × D)) (h : (ρ.set i s)[j]? = some (.ob c fs)) : (∃ gs, ρ[j]? = some (.ob c gs)) ∧ (σ.set i v)[j]? = σ[j]? := by
  by_cases hj : j = i
  · subst hj
    have hl := (List.getElem?_eq_some_iff.mp h).1
    rw [List.length_set] at hl
    rw [List.getElem?_set_self hl] at h
    exact absurd (Option.some.inj h) (hs c fs)
  · rw [List.getElem?_set_ne (Ne.symm hj)] at h ⊢
    exact ⟨⟨fs, h⟩, rfl⟩
theorem obs_set1 {i : Nat} {s : Sl} (hs : ∀ c fs, s ≠ .ob c fs) (j : Nat) (c : Str) (fs : List (Str × D)) (h : (ρ.set i s)[j]? = some (.ob c fs)) : (∃ gs, ρ[j]? = some (.ob c gs)) ∧ σ[j]? = σ[j]? := ⟨(obs_set (σ := σ) (v := none) hs j c fs h).1, rfl⟩
/-- own things of another slot -/
theorem ownAt_set {i j : Nat} {a : Addr} {s : Sl} {v : Option V} (h : i ≠ j) : OwnAt (ρ.set i s) (σ.set i v) j a ↔ OwnAt ρ σ j a := by
  unfold OwnAt
  rw [List.getElem?_set_ne h, List.getElem?_set_ne h]
theorem own_va {i : Nat} {a : Addr} {d : D} {v : Option V} : Own (ρ.set i (.va d)) (σ.set i v) a → Own ρ σ a ∧ ∀ j, OwnAt (ρ.set i (.va d)) (σ.set i v) j a → j ≠ i := by
  rintro ⟨j, o⟩
  have ne : ∀ j, OwnAt (ρ.set i (.va d)) (σ.set i v) j a → j ≠ i := fun j ⟨⟨s, h1, h2⟩, _⟩ e => by
    subst e
    have hl := (List.getElem?_eq_some_iff.mp h1).1
    rw [List.length_set] at hl
    rw [List.getElem?_set_self hl] at h1
    cases h1; cases h2
  exact ⟨⟨j, (ownAt_set (Ne.symm (ne j o))).mp o⟩, ne⟩
/-- a thing is stored -/
theorem EnvS.setVa {i : Nat} {v : V} {d : D} (e : EnvS K st S H0 H σ ρ) (r : Rep K st (Av S ρ σ) H v d) : EnvS K st S H0 H (σ.set i (some v)) (ρ.set i (.va d)) := by
  by_cases hi : i < σ.length
  case neg =>
    have h1 : σ.length ≤ i := by omega
    have h2 : ρ.length ≤ i := by rw [← e.len]; exact h1
    rw [List.set_eq_of_length_le h1, List.set_eq_of_length_le h2]
    exact e
  have sub : ∀ a, Av S (ρ.set i (.va d)) (σ.set i (some v)) a → Av S ρ σ a := fun a z => z.imp id fun q => (own_va q).1
  have low : ∀ {j : Nat} {s : Sl}, j ≠ i → (ρ.set i (.va d))[j]? = some s → ρ[j]? = some s := fun {j s} h q => by rw [List.getElem?_set_ne (Ne.symm h)] at q; exact q
  have at_i : ∀ {s : Sl}, (ρ.set i (.va d))[i]? = some s → s = .va d := fun {s} q => by
    have hl := (List.getElem?_eq_some_iff.mp q).1
    rw [List.length_set] at hl
    rw [List.getElem?_set_self hl] at q
    exact (Option.some.inj q).symm
  refine ⟨fun j u h => ?_, fun j xs h => ?_, fun j cn fs h => ?_, fun j k a oj ok => ?_, by simp [e.len]⟩
  · by_cases hj : j = i
    · subst hj
      cases at_i h
      exact ⟨v, List.getElem?_set_self hi, r.mono (B := noB) (Chg.refl H) (fun _ z => z.elim) sub⟩
    · obtain ⟨u', g1, g2⟩ := e.va j u (low hj h)
      exact ⟨u', by rw [List.getElem?_set_ne (Ne.symm hj)]; exact g1, g2.mono (B := noB) (Chg.refl H) (fun _ z => z.elim) sub⟩
  · by_cases hj : j = i
    · subst hj; cases at_i h
    · obtain ⟨a, vs, g1, g2, g3, g4⟩ := e.ow j xs (low hj h)
      exact ⟨a, vs, by rw [List.getElem?_set_ne (Ne.symm hj)]; exact g1, g2, g3, g4.mono (B := noB) (Chg.refl H) (fun _ z => z.elim) sub⟩
  · by_cases hj : j = i
    · subst hj; cases at_i h
    · obtain ⟨a, dx, fv, g1, g2, g3, g4⟩ := e.ob j cn fs (low hj h)
      exact ⟨a, dx, fv, by rw [List.getElem?_set_ne (Ne.symm hj)]; exact g1, g2, g3, g4.mono (B := noB) (Chg.refl H) (fun _ z => z.elim) sub⟩
  · have nj := (own_va ⟨j, oj⟩).2 j oj
    have nk := (own_va ⟨k, ok⟩).2 k ok
    exact e.dis j k a ((ownAt_set (Ne.symm nj)).mp oj) ((ownAt_set (Ne.symm nk)).mp ok)
theorem Pers.setVa {i : Nat} {v : V} {d : D} : Pers K st S H σ ρ H (σ.set i (some v)) (ρ.set i (.va d)) := ⟨fun u e r => r.mono (B := noB) (Chg.refl H) (fun _ z => z.elim) fun a z => z.imp id fun q => (own_va q).1, obs_set fun _ _ z => nomatch z⟩
/-- outcomes of a statement -/
def OutS (K : PySem.W.Frag) (W : WX) (st : Stx xi) (S : Addr → Prop) (H0 H : Hp) (σ : L2.St) (ρ : SV) (r : R Fl) (Dn : Ends) : Prop := match r with
  | .ok (.nx ρ') m' => ∀ σ' H', Kept K st S H0 H' m' → EnvS K st S H0 H' σ' ρ' → Pers K st S H σ ρ H' σ' ρ' → Dn.nx σ' H'
  | .ok (.rt d) m' => ∀ v H', Kept K st S H0 H' m' → Rep K st S H' v d → Dn.rt v H'
  | .ok (.rf ds) m' => ∀ p vs H', H0 p = none → Kept K st S H0 H' m' → H' p = some (.lst vs) → RepL K st (fun a => S a ∨ a = p) H' vs ds → Dn.rt (.ref p) H'
  | .ok (.bk ρ') m' => ∀ σ' H', Kept K st S H0 H' m' → EnvS K st S H0 H' σ' ρ' → Pers K st S H σ ρ H' σ' ρ' → Dn.bk σ' H'
  | .ok (.ct ρ') m' => ∀ σ' H', Kept K st S H0 H' m' → EnvS K st S H0 H' σ' ρ' → Pers K st S H σ ρ H' σ' ρ' → Dn.ct σ' H'
  | .ok (.ex c fs ρ') m' => ∀ dd fv σ' H', Kept K st S H0 H' m' → EnvS K st S H0 H' σ' ρ' → H' dd = some (.xd fv) → H0 dd = none → RepF K st S H' fv fs → W (.ref (He.ga K c)) (some dd) σ' H'
  | .err _ _ _ => False
  | .bad => False
def TSD (xi : XI) (K : PySem.W.Frag) (W : WX) (G : SV → M Fl) : L2.TS := fun Dn σ H => ∃ (st : Stx xi) (S : Addr → Prop) (ρ : SV) (m : SM) (H0 : Hp), Kept K st S H0 H m ∧ EnvS K st S H0 H σ ρ ∧ OutS K W st S H0 H σ ρ (G ρ m) Dn
structure SS1 (X : Cx) (W : WX) (s : Stmt) (G : SV → M Fl) : Prop where
  ps : PS X s (TSD X.xi X.K W G)
structure SS (X : Cx) (W : WX) (s : List Stmt) (G : SV → M Fl) : Prop where
  ps : PSs X s (TSD X.xi X.K W G)
theorem PS.imp {X : Cx} {s : Stmt} {t t' : L2.TS} (h : PS X s t) (i : ∀ Dn σ H, t' Dn σ H → t Dn σ H) : PS X s t' := ⟨fun pins s σ H Q I q => h.run pins s σ H Q I (i Q σ H q)⟩
theorem PSs.imp {X : Cx} {s : List Stmt} {t t' : L2.TS} (h : PSs X s t) (i : ∀ Dn σ H, t' Dn σ H → t Dn σ H) : PSs X s t' := ⟨fun pins s σ H Q I q => h.run pins s σ H Q I (i Q σ H q)⟩
/-- an expression within a statement: what it raises leaves with the slots as they stand -/
def exB {α : Type} (x : M α) (ρ : SV) (f : α → M Fl) : M Fl := fun m => match x m with
  | .ok a m' => f a m'
  | .err c fs m' => .ok (.ex c fs ρ) m'
  | .bad => .bad
@[simp] theorem exB_run {α : Type} (x : M α) (ρ : SV) (f : α → M Fl) (m : SM) : exB x ρ f m = match x m with
  | .ok a m' => f a m'
  | .err c fs m' => .ok (.ex c fs ρ) m'
  | .bad => .bad := rfl
theorem OutS.chg {W : WX} {m : SM} {r : R Fl} {Dn : Ends} (k : Kept K st S H0 H m) (c : Chg (atSt st) H H') (o : OutS K W st S H0 H σ ρ r Dn) : OutS K W st S H0 H' σ ρ r Dn := by
  have p : Pers K st S H σ ρ H' σ ρ := Pers.after k c
  cases r with
  | ok f m' =>
    cases f with
    | nx ρ' => exact fun σ' H'' k' e' p' => o σ' H'' k' e' (p.trans p')
    | bk ρ' => exact fun σ' H'' k' e' p' => o σ' H'' k' e' (p.trans p')
    | ct ρ' => exact fun σ' H'' k' e' p' => o σ' H'' k' e' (p.trans p')
    | rt d => exact o
    | rf d => exact o
    | ex c fs ρ' => exact o
  | err c fs m' => exact o
  | bad => exact o
theorem OutS.pers {W : WX} {H1 : Hp} {σ1 : L2.St} {ρ1 : SV} {r : R Fl} {Dn : Ends} (p : Pers K st S H σ ρ H1 σ1 ρ1) (o : OutS K W st S H0 H σ ρ r Dn) : OutS K W st S H0 H1 σ1 ρ1 r Dn := by
  cases r with
  | ok f m' =>
    cases f with
    | nx ρ' => exact fun σ' H'' k' e' p' => o σ' H'' k' e' (p.trans p')
    | bk ρ' => exact fun σ' H'' k' e' p' => o σ' H'' k' e' (p.trans p')
    | ct ρ' => exact fun σ' H'' k' e' p' => o σ' H'' k' e' (p.trans p')
    | rt d => exact o
    | rf d => exact o
    | ex c fs ρ' => exact o
  | err c fs m' => exact o
  | bad => exact o
/-- the expression of a statement by its view -/
theorem TE.stm {W : WX} {F : EV → M D} {f : D → M Fl} {m : SM} {Dn : Ends} {R : V → Hp → Prop} {mk : List Bool} (k : Kept K st S H0 H m) (e : EnvS K st S H0 H σ ρ) (o : OutS K W st S H0 H σ ρ (exB (F (vw mk ρ)) ρ f m) Dn)
    (h : ∀ v d m1 H1, Chg (atSt st) H H1 → Kept K st S H0 H1 m1 → Cov K st (AvM S mk ρ σ) H1 m1 → EnvS K st S H0 H1 σ ρ → Rep K st (AvM S mk ρ σ) H1 v d → OutS K W st S H0 H1 σ ρ (f d m1) Dn → R v H1) : TE xi K W F σ H R := by
  refine ⟨st, _, vw mk ρ, m, k.view e mk, e.view k.dom0 mk, ?_⟩
  rw [exB_run] at o
  cases q : F (vw mk ρ) m with
  | ok d m1 =>
    rw [q] at o
    exact fun v H1 c cv r => h v d m1 H1 c (k.after c cv) cv (e.after k c) r (OutS.chg k c o)
  | err cn fs m1 =>
    rw [q] at o
    exact fun dd fv H1 c cv h1 h2 r => o dd fv σ H1 (k.after c cv) (e.after k c) h1 (k.chg.free h2) (r.mono (B := noB) (Chg.refl H1) (fun _ z => z.elim) fun a z => .inl z)
  | bad => rw [q] at o; exact o.elim
theorem TF.stm {W : WX} {F : EV → M (List D)} {f : List D → M Fl} {m : SM} {Dn : Ends} {R : V → Hp → Prop} {mk : List Bool} (k : Kept K st S H0 H m) (e : EnvS K st S H0 H σ ρ) (o : OutS K W st S H0 H σ ρ (exB (F (vw mk ρ)) ρ f m) Dn)
    (h : ∀ p vs d m1 H1, H p = none → Chg (atSt st) H H1 → Kept K st S H0 H1 m1 → EnvS K st S H0 H1 σ ρ → H1 p = some (.lst vs) → RepL K st (fun a => AvM S mk ρ σ a ∨ a = p) H1 vs d → OutS K W st S H0 H σ ρ (f d m1) Dn → R (.ref p) H1) : TF xi K W F σ H R := by
  refine ⟨st, _, vw mk ρ, m, k.view e mk, e.view k.dom0 mk, ?_⟩
  rw [exB_run] at o
  cases q : F (vw mk ρ) m with
  | ok d m1 =>
    rw [q] at o
    exact fun p vs H1 n c cv hp r => h p vs d m1 H1 n c (k.after c cv) (e.after k c) hp r o
  | err cn fs m1 =>
    rw [q] at o
    exact fun dd fv H1 c cv h1 h2 r => o dd fv σ H1 (k.after c cv) (e.after k c) h1 (k.chg.free h2) (r.mono (B := noB) (Chg.refl H1) (fun _ z => z.elim) fun a z => .inl z)
  | bad => rw [q] at o; exact o.elim
theorem TT.stm {W : WX} {C : EV → M Bool} {f : Bool → M Fl} {m : SM} {Dn : Ends} {R : Bool → Hp → Prop} {mk : List Bool} (k : Kept K st S H0 H m) (e : EnvS K st S H0 H σ ρ) (o : OutS K W st S H0 H σ ρ (exB (C (vw mk ρ)) ρ f m) Dn)
    (h : ∀ d m1 H1, Chg (atSt st) H H1 → Kept K st S H0 H1 m1 → EnvS K st S H0 H1 σ ρ → OutS K W st S H0 H1 σ ρ (f d m1) Dn → R d H1) : TT xi K W C σ H R := by
  refine ⟨st, _, vw mk ρ, m, k.view e mk, e.view k.dom0 mk, ?_⟩
  rw [exB_run] at o
  cases q : C (vw mk ρ) m with
  | ok d m1 =>
    rw [q] at o
    exact fun H1 c cv => h d m1 H1 c (k.after c cv) (e.after k c) (OutS.chg k c o)
  | err cn fs m1 =>
    rw [q] at o
    exact fun dd fv H1 c cv h1 h2 r => o dd fv σ H1 (k.after c cv) (e.after k c) h1 (k.chg.free h2) (r.mono (B := noB) (Chg.refl H1) (fun _ z => z.elim) fun a z => .inl z)
  | bad => rw [q] at o; exact o.elim
end
section
variable {X : Cx} {W : WX} {pos : Pos} {s : Stmt} {ss : List Stmt}
def gSeq (G1 G2 : SV → M Fl) : SV → M Fl := fun ρ => do
  let f ← G1 ρ
  match f with
    | .nx ρ' => G2 ρ'
    | f => pure f
theorem ss_nil : SS X W [] (fun ρ => pure (.nx ρ)) := ⟨PSs.imp pss_nil fun Dn σ H ⟨st, S, ρ, m, H0, k, e, o⟩ => o σ H k e Pers.refl⟩
theorem ss_one {G : SV → M Fl} (h : SS1 X W s G) : SS X W [s] G := ⟨pss_one h.ps⟩
theorem ss_cons {G1 G2 : SV → M Fl} (h1 : SS1 X W s G1) (h2 : SS X W ss G2) : SS X W (s :: ss) (gSeq G1 G2) := by
  refine ⟨PSs.imp (pss_cons h1.ps h2.ps) fun Dn σ H ⟨st, S, ρ, m, H0, k, e, o⟩ => ?_⟩
  refine ⟨st, S, ρ, m, H0, k, e, ?_⟩
  replace o : OutS X.K W st S H0 H σ ρ ((G1 ρ >>= fun f => match f with | .nx ρ' => G2 ρ' | f => pure f) m) Dn := o
  rw [bind_run] at o
  cases q : G1 ρ m with
  | bad => rw [q] at o; exact o.elim
  | err c fs m1 => rw [q] at o; exact o.elim
  | ok f m1 =>
    rw [q] at o
    cases f with
    | nx ρ1 =>
      intro σ1 H1 k1 e1 p1
      exact ⟨st, S, ρ1, m1, H0, k1, e1, OutS.pers p1 o⟩
    | rt d => exact o
    | rf d => exact o
    | bk ρ1 => exact o
    | ct ρ1 => exact o
    | ex c fs ρ1 => exact o
def gAsg (i : Nat) (mk : List Bool) (F : EV → M D) : SV → M Fl := fun ρ => exB (F (vw mk ρ)) ρ fun d => do
  need (mk.isEmpty || d.flat)
  pure (.nx (ρ.set i (.va d)))
theorem ss_asg {i : Nat} {F : EV → M D} (mk : List Bool) (h : PS X s (tAsg (TE X.xi X.K W F) (gName i))) : SS1 X W s (gAsg i mk F) := by
  refine ⟨PS.imp h fun Dn σ H ⟨st, S, ρ, m, H0, k, e, o⟩ => ?_⟩
  refine TE.stm k e o fun v d m1 H1 c1 k1 cv1 e1 r1 o1 => ?_
  obtain ⟨hf, o2⟩ := out_need (P := fun r => OutS X.K W st S H0 H1 σ ρ r Dn) (fun z => z) o1
  have r2 : Rep X.K st (Av S ρ σ) H1 v d := by
    cases mk with
    | nil => exact r1.mono (B := noB) (Chg.refl H1) (fun _ z => z.elim) AvM.nil
    | cons b bs => exact r1.flat (B := noB) (Chg.refl H1) (by simpa using hf)
  exact o2 _ H1 k1 (e1.setVa r2) Pers.setVa
def allM (ρ : SV) : List Bool := ρ.map fun _ => true
def gRet (F : EV → M D) : SV → M Fl := fun ρ => exB (F (vw (allM ρ) ρ)) ρ fun d => pure (.rt d)
theorem ss_ret {e : Expr} {F : EV → M D} (h : SE X W e F) : SS1 X W (.Return (some e) pos) (gRet F) :=
  ⟨PS.imp (ps_ret h.pe) fun Dn σ H ⟨st, S, ρ, m, H0, k, e, o⟩ => TE.stm k e o fun v d m1 H1 c1 k1 cv1 e1 r1 o1 => o1 v H1 k1 (r1.mono (B := noB) (Chg.refl H1) (fun _ z => z.elim) fun a z => .inl z)⟩
def gIf (C : EV → M Bool) (G1 G2 : SV → M Fl) : SV → M Fl := fun ρ => exB (C (vw (allM ρ) ρ)) ρ fun b => if b = true then G1 ρ else G2 ρ
theorem ss_if {c : Expr} {a b : List Stmt} {C : EV → M Bool} {G1 G2 : SV → M Fl} (hc : ST X W c C) (ha : SS X W a G1) (hb : SS X W b G2) : SS1 X W (.If c a b pos) (gIf C G1 G2) := by
  refine ⟨PS.imp (ps_if hc.pt ha.ps hb.ps) fun Dn σ H ⟨st, S, ρ, m, H0, k, e, o⟩ => ?_⟩
  refine TT.stm k e o fun b m1 H1 c1 k1 e1 o1 => ?_
  cases b with
  | true => exact ⟨st, S, ρ, m1, H0, k1, e1, o1⟩
  | false => exact ⟨st, S, ρ, m1, H0, k1, e1, o1⟩
def gBad : SV → M Fl := fun _ => M.bad
theorem ownAt_new {ρ : SV} {σ : L2.St} {i j : Nat} {a p : Addr} {s : Sl} (hs : s.isOwn = true) : OwnAt (ρ.set i s) (σ.set i (some (.ref p))) j a → (j ≠ i ∧ OwnAt ρ σ j a) ∨ (j = i ∧ a = p) := by
  intro o
  by_cases h : j = i
  · subst h
    obtain ⟨⟨s', h1, h2⟩, h3⟩ := o
    have hl : j < σ.length := by
      have := (List.getElem?_eq_some_iff.mp h3).1
      simpa using this
    rw [List.getElem?_set_self hl] at h3
    cases h3
    exact .inr ⟨rfl, rfl⟩
  · exact .inl ⟨h, (ownAt_set (Ne.symm h)).mp o⟩
section
variable {K : PySem.W.Frag} {st : Stx xi} {S : Addr → Prop} {H0 H H' : Hp} {σ : L2.St} {ρ : SV}
theorem EnvS.setOw {i : Nat} {p : Addr} {xs : List D} {vs : List V} {H1 : Hp} {m : SM} (k : Kept K st S H0 H m) (e : EnvS K st S H0 H σ ρ) (n : H p = none) (c : Chg (atSt st) H H1) (hp : H1 p = some (.lst vs)) (r : RepL K st (fun a => Av S ρ σ a ∨ a = p) H1 vs xs) : EnvS K st S H0 H1 (σ.set i (some (.ref p))) (ρ.set i (.ow xs)) ∧ Pers K st S H σ ρ H1 (σ.set i (some (.ref p))) (ρ.set i (.ow xs)) := by
  by_cases hi : i < σ.length
  case neg =>
    have h1 : σ.length ≤ i := by omega
    have h2 : ρ.length ≤ i := by rw [← e.len]; exact h1
    rw [List.set_eq_of_length_le h1, List.set_eq_of_length_le h2]
    exact ⟨e.after k c, Pers.after k c⟩
  have hi' : i < ρ.length := by rw [← e.len]; exact hi
  have sub : ∀ a, Av S (ρ.set i (.ow xs)) (σ.set i (some (.ref p))) a → Av S ρ σ a ∨ H a = none := fun a z => by
    rcases z with z | ⟨j, o⟩
    · exact .inl (.inl z)
    · rcases ownAt_new rfl o with ⟨_, o⟩ | ⟨_, q⟩
      · exact .inl (.inr ⟨j, o⟩)
      · rw [q]; exact .inr n
  have stS : ∀ a, atSt st a → Av S (ρ.set i (.ow xs)) (σ.set i (some (.ref p))) a := fun a z => .inl (k.cov.sub a z)
  have go : ∀ {v : V} {d : D}, Rep K st (Av S ρ σ) H v d → Rep K st (Av S (ρ.set i (.ow xs)) (σ.set i (some (.ref p)))) H1 v d := fun r => (r.wide sub).mono c stS fun _ z => z
  have goL : ∀ {v : List V} {d : List D}, RepL K st (Av S ρ σ) H v d → RepL K st (Av S (ρ.set i (.ow xs)) (σ.set i (some (.ref p)))) H1 v d := fun r => (r.wide sub).mono c stS fun _ z => z
  have goF : ∀ {v : List (Str × V)} {d : List (Str × D)}, RepF K st (Av S ρ σ) H v d → RepF K st (Av S (ρ.set i (.ow xs)) (σ.set i (some (.ref p)))) H1 v d := fun r => (r.wide sub).mono c stS fun _ z => z
  have low : ∀ {j : Nat} {s : Sl}, j ≠ i → (ρ.set i (.ow xs))[j]? = some s → ρ[j]? = some s := fun {j s} h q => by rw [List.getElem?_set_ne (Ne.symm h)] at q; exact q
  have at_i : ∀ {s : Sl}, (ρ.set i (.ow xs))[i]? = some s → s = .ow xs := fun {s} q => by
    rw [List.getElem?_set_self hi'] at q
    exact (Option.some.inj q).symm
  have nst : ∀ a, H0 a = none → ¬ atSt st a := fun a h z => k.not h (k.cov.sub a z)
  refine ⟨⟨fun j u h => ?_, fun j ys h => ?_, fun j cn fs h => ?_, fun j l a oj ok => ?_, by simp [e.len]⟩, fun v d r => go r, obs_set fun _ _ z => nomatch z⟩
  · by_cases hj : j = i
    · subst hj; cases at_i h
    · obtain ⟨u', g1, g2⟩ := e.va j u (low hj h)
      exact ⟨u', by rw [List.getElem?_set_ne (Ne.symm hj)]; exact g1, go g2⟩
  · by_cases hj : j = i
    · subst hj
      cases at_i h
      refine ⟨p, vs, List.getElem?_set_self hi, hp, k.chg.free n, r.mono (B := noB) (Chg.refl H1) (fun _ z => z.elim) fun a z => ?_⟩
      rcases z with z | ⟨j', o⟩
      · exact .inl (.inl z)
      · rcases ownAt_new rfl o with ⟨_, o⟩ | ⟨_, q⟩
        · exact .inl (.inr ⟨j', o⟩)
        · exact .inr q
    · obtain ⟨a, ws, g1, g2, g3, g4⟩ := e.ow j ys (low hj h)
      exact ⟨a, ws, by rw [List.getElem?_set_ne (Ne.symm hj)]; exact g1, c.keep g2 (.inr (nst a g3)), g3, goL g4⟩
  · by_cases hj : j = i
    · subst hj; cases at_i h
    · obtain ⟨a, dx, fv, g1, g2, g3, g4⟩ := e.ob j cn fs (low hj h)
      exact ⟨a, dx, fv, by rw [List.getElem?_set_ne (Ne.symm hj)]; exact g1, c.keep g2 (.inr (nst a g3)), g3, goF g4⟩
  · have ne : ∀ {j : Nat}, OwnAt ρ σ j p → False := fun o => by
      obtain ⟨⟨u, h, _⟩, _⟩ := e.own o
      rw [n] at h; cases h
    rcases ownAt_new rfl oj with ⟨h1, o1⟩ | ⟨h1, q1⟩ <;> rcases ownAt_new rfl ok with ⟨h2, o2⟩ | ⟨h2, q2⟩
    · exact e.dis j l a o1 o2
    · subst q2; exact (ne o1).elim
    · subst q1; exact (ne o2).elim
    · rw [h1, h2]
end
def flatsOk (mk : List Bool) (ds : List D) : Bool := mk.isEmpty || D.flats ds
/-- x = a new list, which this def will change -/
def gNew (i : Nat) (mk : List Bool) (L : EV → M (List D)) : SV → M Fl := fun ρ => exB (L (vw mk ρ)) ρ fun ds => do
  need (flatsOk mk ds)
  pure (.nx (ρ.set i (.ow ds)))
theorem ss_new {i : Nat} {L : EV → M (List D)} (mk : List Bool) (h : PS X s (tAsg (TF X.xi X.K W L) (gName i))) : SS1 X W s (gNew i mk L) := by
  refine ⟨PS.imp h fun Dn σ H ⟨st, S, ρ, m, H0, k, e, o⟩ => ?_⟩
  refine TF.stm k e o fun p vs ds m1 H1 n c1 k1 e1 hp r1 o1 => ?_
  obtain ⟨hf, o2⟩ := out_need (P := fun r => OutS X.K W st S H0 H σ ρ r Dn) (fun z => z) o1
  have r2 : RepL X.K st (fun a => Av S ρ σ a ∨ a = p) H1 vs ds := by
    cases mk with
    | nil => exact r1.mono (B := noB) (Chg.refl H1) (fun _ z => z.elim) fun a z => z.imp (AvM.nil a) id
    | cons b bs => exact r1.flat (B := noB) (Chg.refl H1) (by simpa [flatsOk] using hf)
  obtain ⟨e2, p2⟩ := EnvS.setOw (i := i) k e n c1 hp r2
  exact o2 _ H1 k1 e2 p2
section
variable {K : PySem.W.Frag} {st : Stx xi} {S : Addr → Prop} {H0 H : Hp} {σ : L2.St} {ρ : SV} {m : SM}
theorem own_same {i : Nat} {s s' : Sl} (h : ρ[i]? = some s) (h1 : s.isOwn = true) (h2 : s'.isOwn = true) (j : Nat) (a : Addr) : OwnAt (ρ.set i s') σ j a ↔ OwnAt ρ σ j a := by
  have hl := (List.getElem?_eq_some_iff.mp h).1
  unfold OwnAt
  by_cases hj : j = i
  · subst hj
    rw [List.getElem?_set_self hl, h]
    constructor
    · rintro ⟨_, q⟩; exact ⟨⟨s, rfl, h1⟩, q⟩
    · rintro ⟨_, q⟩; exact ⟨⟨s', rfl, h2⟩, q⟩
  · rw [List.getElem?_set_ne (Ne.symm hj)]
/-- the own list in slot i holds other things -/
theorem EnvS.write {i : Nat} {a : Addr} {xs ys : List D} {vs ws : List V} (k : Kept K st S H0 H m) (e : EnvS K st S H0 H σ ρ) (h : ρ[i]? = some (.ow xs)) (hs : σ[i]? = some (some (.ref a))) (ha : H a = some (.lst vs)) (r : RepL K st (Av S ρ σ) H ws ys) :
    Kept K st S H0 (upd H a (.lst ws)) m ∧ EnvS K st S H0 (upd H a (.lst ws)) σ (ρ.set i (.ow ys)) ∧ Pers K st S H σ ρ (upd H a (.lst ws)) σ (ρ.set i (.ow ys)) := by
  have oi : OwnAt ρ σ i a := ⟨⟨_, h, rfl⟩, hs⟩
  have h0 : H0 a = none := (e.own oi).2
  have hl := (List.getElem?_eq_some_iff.mp h).1
  have same := own_same (σ := σ) (s' := .ow ys) h rfl rfl
  have av : ∀ b, Av S (ρ.set i (.ow ys)) σ b → Av S ρ σ b := fun b z => z.imp id fun ⟨j, o⟩ => ⟨j, (same j b).mp o⟩
  have cw : Chg (fun b => b = a) H (upd H a (.lst ws)) := Chg.write ha rfl rfl
  have sub : ∀ b, b = a → Av S ρ σ b := fun b z => .inr ⟨i, by rw [z]; exact oi⟩
  have nS : ¬ S a := k.not h0
  have low : ∀ {j : Nat} {s : Sl}, j ≠ i → (ρ.set i (.ow ys))[j]? = some s → ρ[j]? = some s := fun {j s} h q => by rw [List.getElem?_set_ne (Ne.symm h)] at q; exact q
  have at_i : ∀ {s : Sl}, (ρ.set i (.ow ys))[i]? = some s → s = .ow ys := fun {s} q => by
    rw [List.getElem?_set_self hl] at q
    exact (Option.some.inj q).symm
  have ne : ∀ {j : Nat} {b : Addr}, j ≠ i → OwnAt ρ σ j b → b ≠ a := fun hj oj z => hj (e.dis _ _ a (by rw [← z]; exact oj) oi)
  refine ⟨⟨k.cov.keep cw fun b z => by rw [z]; exact nS, k.dom0, fun b u q => ?_⟩, ⟨fun j u q => ?_, fun j zs q => ?_, fun j cn fs q => ?_, fun j l b oj ol => e.dis j l b ((same j b).mp oj) ((same l b).mp ol), by simp [e.len]⟩, fun v d q => q.mono cw sub av, obs_set1 fun _ _ z => nomatch z⟩
  · have nb : b ≠ a := fun z => by rw [z, h0] at q; cases q
    rw [upd_ne nb]
    exact k.chg b u q
  · by_cases hj : j = i
    · subst hj; cases at_i q
    · obtain ⟨v, g1, g2⟩ := e.va j u (low hj q)
      exact ⟨v, g1, g2.mono cw sub av⟩
  · by_cases hj : j = i
    · subst hj
      cases at_i q
      exact ⟨a, ws, hs, upd_same, h0, r.mono cw sub av⟩
    · obtain ⟨b, us, g1, g2, g3, g4⟩ := e.ow j zs (low hj q)
      exact ⟨b, us, g1, by rw [upd_ne (ne hj ⟨⟨_, low hj q, rfl⟩, g1⟩)]; exact g2, g3, g4.mono cw sub av⟩
  · by_cases hj : j = i
    · subst hj; cases at_i q
    · obtain ⟨b, dx, fv, g1, g2, g3, g4⟩ := e.ob j cn fs (low hj q)
      exact ⟨b, dx, fv, g1, by rw [upd_ne (ne hj ⟨⟨_, low hj q, rfl⟩, g1⟩)]; exact g2, g3, g4.mono cw sub av⟩
end
/-- giving lists up ahead of a block -/
def frz (i : Nat) (ρ : SV) : SV := match ρ[i]? with
  | some (.ow xs) => ρ.set i (.va (.lst xs))
  | _ => ρ
/-- x.append(e) -/
def gApp (i : Nat) (mk : List Bool) (F : EV → M D) : SV → M Fl := fun ρ => match ρ[i]? with
  | some (.ow xs) => exB (F (vw mk ρ)) ρ fun d => do
    need (mk.isEmpty || d.flat)
    lim (xs.length + 1)
    pure (.nx (ρ.set i (.ow (xs ++ [d]))))
  | _ => M.bad
theorem ss_app {i : Nat} {A : L2.TA} {F : EV → M D} (mk : List Bool) (h : PS X s (tDrop (tBM X.K "list" rAppend (tVar i) A))) (hA : ∀ σ H Q, TE X.xi X.K W F σ H (fun v H' => Q [v] H') → A σ H Q) : SS1 X W s (gApp i mk F) := by
  refine ⟨PS.imp h fun Dn σ H ⟨st, S, ρ, m, H0, k, e, o⟩ => ?_⟩
  unfold gApp at o
  cases q : ρ[i]? with
  | none => rw [q] at o; exact o.elim
  | some sl =>
    rw [q] at o
    cases sl with
    | ow xs =>
      obtain ⟨a, vs, g1, g2, g3, g4⟩ := e.ow i xs q
      refine ⟨.ref a, g1, .inl ⟨rfl, _, SqL.of g2⟩, hA _ _ _ ?_⟩
      refine TE.stm k e o fun v d m1 H1 c1 k1 cv1 e1 r1 o1 => ?_
      obtain ⟨hf, o2⟩ := out_need (P := fun r => OutS X.K W st S H0 H1 σ ρ r Dn) (fun z => z) o1
      obtain ⟨hz, o3⟩ := out_lim (P := fun r => OutS X.K W st S H0 H1 σ ρ r Dn) (fun z => z) o2
      obtain ⟨b, ws, f1, f2, f3, f4⟩ := e1.ow i xs q
      have eb : b = a := by rw [g1] at f1; cases f1; rfl
      subst eb
      have r2 : Rep X.K st (Av S ρ σ) H1 v d := by
        cases mk with
        | nil => exact r1.mono (B := noB) (Chg.refl H1) (fun _ z => z.elim) AvM.nil
        | cons b bs => exact r1.flat (B := noB) (Chg.refl H1) (by simpa using hf)
      obtain ⟨k2, e2, p2⟩ := EnvS.write k1 e1 q f1 f2 (f4.append (.cons r2 .nil))
      refine ⟨b, ws, v, rfl, rfl, f2, ?_, o3 σ _ k2 e2 p2⟩
      rw [f4.length]
      omega
    | no => exact o.elim
    | va d => exact o.elim
    | ob c fs => exact o.elim
/-- x[j] = e, x an own list -/
def gSet (i : Nat) (mk : List Bool) (F Gj : EV → M D) : SV → M Fl := fun ρ => exB (F (vw mk ρ)) ρ fun d => exB (noErr (Gj (vw (allM ρ) ρ))) ρ fun j => match ρ[i]?, j with
  | some (.ow xs), .int k => do
    need (mk.isEmpty || d.flat)
    match ixN xs.length k with
      | some n => pure (.nx (ρ.set i (.ow (xs.set n d))))
      | none => M.bad
  | _, _ => M.bad
theorem ss_set {i : Nat} {F Gj : EV → M D} (mk : List Bool) (h : PS X s (tAsg (TE X.xi X.K W F) (gSub (tVar i) (TE X.xi X.K W Gj) rSetL))) : SS1 X W s (gSet i mk F Gj) := by
  refine ⟨PS.imp h fun Dn σ H ⟨st, S, ρ, m, H0, k, e, o⟩ => ?_⟩
  refine TE.stm k e o fun v d m1 H1 c1 k1 cv1 e1 r1 o1 => ?_
  have hi : ∃ u, σ[i]? = some (some u) := by
    rw [exB_run] at o1
    rcases noErr_cases (Gj (vw (allM ρ) ρ)) m1 with ⟨j, m2, q1, q⟩ | q
    · rw [q] at o1
      cases q2 : ρ[i]? with
      | none => rw [q2] at o1; exact o1.elim
      | some sl =>
        rw [q2] at o1
        cases sl with
        | ow xs =>
          obtain ⟨a, vs, g1, _⟩ := e1.ow i xs q2
          exact ⟨_, g1⟩
        | _ => exact o1.elim
    · rw [q] at o1; exact o1.elim
  replace o1 : OutS X.K W st S H0 H1 σ ρ (exB (Gj (vw (allM ρ) ρ)) ρ (fun j => match ρ[i]?, j with
    | some (.ow xs), .int k => do
      need (mk.isEmpty || d.flat)
      match ixN xs.length k with
        | some n => pure (.nx (ρ.set i (.ow (xs.set n d))))
        | none => M.bad
    | _, _ => M.bad) m1) Dn := by
    rw [exB_run] at o1 ⊢
    rcases noErr_cases (Gj (vw (allM ρ) ρ)) m1 with ⟨j, m2, q1, q⟩ | q
    · rw [q] at o1
      rw [q1]
      exact o1
    · rw [q] at o1; exact o1.elim
  obtain ⟨u, hu⟩ := hi
  refine ⟨u, hu, ?_⟩
  refine TE.stm k1 e1 o1 fun y j m2 H2 c2 k2 cv2 e2 r2 o2 => ?_
  cases q2 : ρ[i]? with
  | none => rw [q2] at o2; exact o2.elim
  | some sl =>
    rw [q2] at o2
    cases sl with
    | ow xs =>
      cases j with
      | int kk =>
        obtain ⟨hf, o3⟩ := out_need (P := fun r => OutS X.K W st S H0 H2 σ ρ r Dn) (fun z => z) o2
        clear o2
        cases q3 : ixN xs.length kk with
        | none => rw [q3] at o3; exact o3.elim
        | some n =>
          rw [q3] at o3
          obtain ⟨a, vs, g1, g2, g3, g4⟩ := e2.ow i xs q2
          rw [hu] at g1; cases g1
          have r3 : Rep X.K st (Av S ρ σ) H1 v d := by
            cases mk with
            | nil => exact r1.mono (B := noB) (Chg.refl H1) (fun _ z => z.elim) AvM.nil
            | cons b bs => exact r1.flat (B := noB) (Chg.refl H1) (by simpa using hf)
          have r4 : Rep X.K st (Av S ρ σ) H2 v d := r3.mono c2 (fun a z => .inl (k1.cov.sub a z)) fun _ z => z
          obtain ⟨k3, e3, p3⟩ := EnvS.write k2 e2 q2 hu g2 (g4.set r4 n)
          cases r2
          exact ⟨a, vs, kk, n, rfl, rfl, g2, by rw [g4.length]; exact q3, o3 σ _ k3 e3 p3⟩
      | _ => exact o2.elim
    | no => cases j <;> exact o2.elim
    | va d => cases j <;> exact o2.elim
    | ob c fs => cases j <;> exact o2.elim
/-- a target is bound -/
def bName (i : Nat) : D → SV → Option SV := fun d ρ => some (ρ.set i (.va d))
def loopS (bnd : D → SV → Option SV) (B : SV → M Fl) : List D → SV → M Fl
  | [], ρ => pure (.nx ρ)
  | d :: ds, ρ => match bnd d ρ with
    | none => M.bad
    | some ρ1 => do
      let f ← B ρ1
      match f with
        | .nx ρ' => loopS bnd B ds ρ'
        | .ct ρ' => loopS bnd B ds ρ'
        | .bk ρ' => pure (.nx ρ')
        | .rt d => pure (.rt d)
        | .rf d => pure (.rf d)
        | .ex c fs ρ' => pure (.ex c fs ρ')
def gFor (I : EV → M (List D)) (bnd : D → SV → Option SV) (B : SV → M Fl) : SV → M Fl := fun ρ => exB (I (vw [] ρ)) ρ fun ds => loopS bnd B ds ρ
/-- what binding does in the machine -/
def BndOk (pr : Bool) (K : PySem.W.Frag) (g : TG) (bnd : D → SV → Option SV) : Prop := ∀ {xi : XI} (st : Stx xi) (S : Addr → Prop) (H0 H : Hp) (σ : L2.St) (ρ ρ1 : SV) (m : SM) (v : V) (d : D) (Q : L2.St → Hp → Prop), Kept K st S H0 H m → EnvS K st S H0 H σ ρ → RepW pr K st (Av S ρ σ) H v d → bnd d ρ = some ρ1 →
  (∀ σ1, EnvS K st S H0 H σ1 ρ1 → Pers K st S H σ ρ H σ1 ρ1 → Q σ1 H) → g v σ H Q
theorem bnd_name {K : PySem.W.Frag} {i : Nat} : BndOk false K (gName i) (bName i) := fun st S H0 H σ ρ ρ1 m v d Q k e r h q => by
  cases h
  exact q _ (e.setVa r) Pers.setVa
def bPair (i j : Nat) : D → SV → Option SV
  | .tup [a, b], ρ => some ((ρ.set i (.va a)).set j (.va b))
  | _, _ => none
theorem bnd_pair {K : PySem.W.Frag} {i j : Nat} : BndOk true K (gTup K 2 (gCons (gName i) (gCons (gName j) gNil))) (bPair i j) := fun st S H0 H σ ρ ρ1 m v d Q k e r h q => by
  obtain ⟨T, x, y, d1, d2, e1, e2, hq, r1, r2⟩ := r
  subst e1 e2
  cases h
  have p1 : Pers K st S H σ ρ H (σ.set i (some x)) (ρ.set i (.va d1)) := Pers.setVa
  exact ⟨T, [x, y], rfl, hq, rfl, x, [y], rfl, y, [], rfl, rfl, q _ ((e.setVa r1).setVa (p1.rep _ _ r2)) (p1.trans Pers.setVa)⟩
theorem ss_for {pr : Bool} {tg iter : Expr} {body : List Stmt} {I : EV → M (List D)} {g : TG} {bnd : D → SV → Option SV} {B : SV → M Fl} (hp : PassesOwn (model X.prog X.w) X.A X.env X.xe) (hc : X.calm = true) (hI : SI pr X W tg iter I) (hg : PG X tg g) (hb : BndOk pr X.K g bnd) (hB : SS X W body B)
    (hs : ∀ x, foldedSetIterable iter X.env x = pure x := by intro _; rfl) : SS1 X W (.For tg iter body [] pos) (gFor I bnd B) := by
  refine ⟨PS.imp (ps_for hp hc hI.pi hg hB.ps hs) fun Dn σ H ⟨st, S, ρ, m, H0, k, e, o⟩ => ?_⟩
  refine ⟨st, _, vw [] ρ, m, k.view e [], e.view k.dom0 [], ?_⟩
  replace o : OutS X.K W st S H0 H σ ρ (exB (I (vw [] ρ)) ρ (fun ds => loopS bnd B ds ρ) m) Dn := o
  rw [exB_run] at o
  cases q : I (vw [] ρ) m with
  | bad => rw [q] at o; exact o.elim
  | err cn fs m1 =>
    rw [q] at o
    exact fun dd fv H1 c cv h1 h2 r => o dd fv σ H1 (k.after c cv) (e.after k c) h1 (k.chg.free h2) (r.mono (B := noB) (Chg.refl H1) (fun _ z => z.elim) fun a z => .inl z)
  | ok ds m1 =>
    rw [q] at o
    intro J vs0 ds0 H1 c1 cv1 r0 wd
    have k1 := k.after c1 cv1
    have e1 := e.after k c1
    have r1 : RepL X.K st (Av S ρ σ) H1 vs0 ds0 := r0.mono (B := noB) (Chg.refl H1) (fun _ z => z.elim) AvM.nil
    have o1 := OutS.chg k c1 o
    refine ⟨fun j n σ' H' => n = ds.length - j ∧ j ≤ ds.length ∧ ∃ ρ' m', Kept X.K st S H0 H' m' ∧ EnvS X.K st S H0 H' σ' ρ' ∧ Pers X.K st S H1 σ ρ H' σ' ρ' ∧ OutS X.K W st S H0 H1 σ ρ (loopS bnd B (ds.drop j) ρ' m') Dn, ?_, ?_⟩
    · exact ⟨ds.length, by simp, Nat.zero_le _, ρ, m1, k1, e1, Pers.refl, by rw [List.drop_zero]; exact o1⟩
    · rintro j n σ' H' ⟨rfl, hj, ρ', m', k', e', p', o'⟩
      have r' := p'.list r1
      by_cases hlt : j < ds.length
      · refine .inr ⟨wd.goes _ H' j hlt r', _, fun σ2 H2 p2 => ⟨ds.length - (j + 1), by omega, rfl, hlt, p2⟩, fun x H2 y => ?_⟩
        obtain ⟨d, hd, cy, rx⟩ := wd.yields _ H' j x H2 hlt r' y
        have hdrop : ds.drop j = d :: ds.drop (j + 1) := by
          obtain ⟨h1, h2⟩ := List.getElem?_eq_some_iff.mp hd
          rw [← h2, List.drop_eq_getElem_cons h1]
        rw [hdrop, loopS] at o'
        have cy' : Chg (atSt st) H' H2 := cy.mono fun _ z => z.elim
        have k2 : Kept X.K st S H0 H2 m' := ⟨k'.cov.keep cy fun _ z => z.elim, k'.dom0, k'.chg.trans cy'⟩
        have e2 := e'.after k' cy'
        have p2 := p'.trans (Pers.after (σ := σ') (ρ := ρ') k' cy')
        cases hbn : bnd d ρ' with
        | none => rw [hbn] at o'; exact o'.elim
        | some ρ1 =>
          rw [hbn] at o'
          refine hb st S H0 H2 σ' ρ' ρ1 m' x d _ k2 e2 rx hbn fun σ1 e3 p3 => ?_
          refine ⟨st, S, ρ1, m', H0, k2, e3, ?_⟩
          replace o' : OutS X.K W st S H0 H1 σ ρ ((B ρ1 >>= fun f => match f with
            | .nx ρ' => loopS bnd B (ds.drop (j + 1)) ρ'
            | .ct ρ' => loopS bnd B (ds.drop (j + 1)) ρ'
            | .bk ρ' => pure (.nx ρ')
            | .rt d => pure (.rt d)
            | .rf d => pure (.rf d)
            | .ex c fs ρ' => pure (.ex c fs ρ')) m') Dn := o'
          rw [bind_run] at o'
          have p13 := p2.trans p3
          cases qB : B ρ1 m' with
          | bad => rw [qB] at o'; exact o'.elim
          | err cn fs m2 => rw [qB] at o'; exact o'.elim
          | ok f m2 =>
            rw [qB] at o'
            cases f with
            | nx ρ2 => exact fun σ4 H4 k4 e4 p4 => ⟨ρ2, m2, k4, e4, p13.trans p4, o'⟩
            | ct ρ2 => exact fun σ4 H4 k4 e4 p4 => ⟨ρ2, m2, k4, e4, p13.trans p4, o'⟩
            | bk ρ2 => exact fun σ4 H4 k4 e4 p4 => o' σ4 H4 k4 e4 (p13.trans p4)
            | rt d => exact o'
            | rf d => exact o'
            | ex cn fs ρ2 => exact o'
      · have ej : j = ds.length := by omega
        subst ej
        rw [List.drop_length, loopS] at o'
        exact .inl ⟨wd.stops _ H' r', o' σ' H' k' e' p'⟩
def runF (p n : Nat) (G : SV → M Fl) : List D → M D := fun ds m => if ds.length = p then (match G (ds.map .va ++ List.replicate (n - p) .no) m with
  | .ok (.rt d) m' => .ok d m'
  | .ok (.rf ds) m' => .ok (.lst ds) m'
  | .ok (.nx _) m' => .ok .non m'
  | .ok (.ex c fs _) m' => .err c fs m'
  | _ => .bad) else .bad
abbrev wE (E : XK) : WX := fun cls d _ H => E cls d H
theorem fn_den {P : Program} {w : World} {K : PySem.W.Frag} {mg : Str → Option Value} {base : Heap} {x qual : Str} {params : Arguments} {body : List Stmt} {scope : Scope} {dvs : List V} {kws : List (Str × V)} {f : Addr} {fd : FuncData} {N ps : List Str} {k : Nat} {G : SV → M Fl}
    (F : FunD K x qual params body scope dvs kws f fd) (Sc : FnScope N ps scope)
    (hb : ∀ (cdv : Value) (A : Around) (outer : List Env) (s : Shared) (H : Hp) (E : XK), Room k (A.deeper (envOfC qual scope s.heap.objs.size f cdv)) → SS (cxOf (L2N.CX P w) P w K mg base N qual scope f cdv A outer s H E) (wE E) body G) :
    FnOk P w K mg base (L2N.CX P w) (k + 1) f fd ps (spOf K (runF ps.length N.length G)) := by
  refine F.ok Sc (fun vs H Q E ⟨st, S, ds, m, cv, r, o⟩ => ?_) fun cdv A outer s H vs Q E hr ⟨st, S, ds, m, cv, r, o⟩ => ⟨_, (by have z := (hb cdv A outer s H E hr).ps; rw [xi_room (X := cxOf (L2N.CX P w) P w K mg base N qual scope f cdv A outer s H E) hr] at z; exact z), ?_⟩
  · unfold runF at o
    by_cases h : ds.length = ps.length
    · rw [r.length, h]
    · rw [if_neg h] at o; exact o.elim
  · unfold runF at o
    by_cases h : ds.length = ps.length
    case neg => rw [if_neg h] at o; exact o.elim
    rw [if_pos h] at o
    have hl : vs.length = ps.length := r.length.trans h
    have noOwn : ∀ i a, ¬ OwnAt (ds.map .va ++ List.replicate (N.length - ps.length) .no) (L2.start N vs) i a := fun i a ⟨⟨s, h1, h2⟩, _⟩ => by
      have hm := List.mem_of_getElem? h1
      rcases List.mem_append.mp hm with hm | hm
      · obtain ⟨d, _, e⟩ := List.mem_map.mp hm
        rw [← e] at h2; cases h2
      · rw [(List.mem_replicate.mp hm).2] at h2; cases h2
    have low : ∀ (i : Nat) (sl : Sl), (ds.map Sl.va ++ List.replicate (N.length - ps.length) Sl.no)[i]? = some sl → (∃ d, ds[i]? = some d ∧ sl = .va d) ∨ sl = .no := fun i sl h1 => by
      by_cases hi : i < ds.length
      · rw [List.getElem?_append_left (by simpa using hi), List.getElem?_map] at h1
        obtain ⟨d, h2, h3⟩ := Option.map_eq_some_iff.mp h1
        exact .inl ⟨d, h2, h3.symm⟩
      · rw [List.getElem?_append_right (by simpa using hi)] at h1
        exact .inr (List.mem_replicate.mp (List.mem_of_getElem? h1)).2
    have kk : Kept K st S H H m := ⟨cv, cv.dom, Chg.refl H⟩
    have ee : EnvS K st S H H (L2.start N vs) (ds.map .va ++ List.replicate (N.length - ps.length) .no) := by
      refine ⟨fun i d h1 => ?_, fun i xs h1 => ?_, fun i c fs h1 => ?_, fun i j a oi => (noOwn i a oi).elim, ?_⟩
      · rcases low i _ h1 with ⟨d', h2, h3⟩ | h3
        · cases h3
          obtain ⟨v, g1, g2⟩ := r.get h2
          refine ⟨v, ?_, g2.mono (B := noB) (Chg.refl H) (fun _ z => z.elim) fun a z => z.elim id fun ⟨i, oi⟩ => (noOwn i a oi).elim⟩
          unfold L2.start
          rw [List.getElem?_append_left (by simpa using (List.getElem?_eq_some_iff.mp g1).1), List.getElem?_map, g1]; rfl
        · cases h3
      · rcases low i _ h1 with ⟨d', h2, h3⟩ | h3 <;> cases h3
      · rcases low i _ h1 with ⟨d', h2, h3⟩ | h3 <;> cases h3
      · unfold L2.start
        simp [hl, h]
    refine ⟨st, S, _, m, H, kk, ee, ?_⟩
    cases q : G (ds.map .va ++ List.replicate (N.length - ps.length) .no) m with
    | bad => rw [q] at o; exact o.elim
    | err c fs m1 => rw [q] at o; exact o.elim
    | ok f m1 =>
      rw [q] at o
      cases f with
      | nx ρ1 => exact fun σ1 H1 k1 e1 p1 => o .non H1 k1.chg k1.cov .non
      | rt d => exact fun v H1 k1 r1 => o v H1 k1.chg k1.cov r1
      | rf d => exact fun p vs H1 n1 k1 h1 r1 => o _ H1 k1.chg k1.cov (.lst (k1.not n1) h1 (r1.mono (B := noB) (Chg.refl H1) (fun _ z => z.elim) fun a z => .inl z))
      | ex c fs ρ1 => exact fun dd fv σ1 H1 k1 e1 h1 h2 r1 => o dd fv H1 k1.chg k1.cov h1 h2 r1
      | bk ρ1 => exact o.elim
      | ct ρ1 => exact o.elim
/-- a def that returns a list of its own -/
def spFr (K : PySem.W.Frag) (g : List D → M (List D)) : Sp := fun vs H Q E => ∃ (st : Stx none) (S : Addr → Prop) (ds : List D) (m : SM), Cov K st S H m ∧ RepL K st S H vs ds ∧ OutF K st S H (g ds m) Q E
def runFF (p n : Nat) (G : SV → M Fl) : List D → M (List D) := fun ds m => if ds.length = p then (match G (ds.map .va ++ List.replicate (n - p) .no) m with
  | .ok (.rf ds) m' => .ok ds m'
  | .ok (.ex c fs _) m' => .err c fs m'
  | _ => .bad) else .bad
theorem fn_denF {P : Program} {w : World} {K : PySem.W.Frag} {mg : Str → Option Value} {base : Heap} {x qual : Str} {params : Arguments} {body : List Stmt} {scope : Scope} {dvs : List V} {kws : List (Str × V)} {f : Addr} {fd : FuncData} {N ps : List Str} {k : Nat} {G : SV → M Fl}
    (F : FunD K x qual params body scope dvs kws f fd) (Sc : FnScope N ps scope)
    (hb : ∀ (cdv : Value) (A : Around) (outer : List Env) (s : Shared) (H : Hp) (E : XK), Room k (A.deeper (envOfC qual scope s.heap.objs.size f cdv)) → SS (cxOf (L2N.CX P w) P w K mg base N qual scope f cdv A outer s H E) (wE E) body G) :
    FnOk P w K mg base (L2N.CX P w) (k + 1) f fd ps (spFr K (runFF ps.length N.length G)) := by
  refine F.ok Sc (fun vs H Q E ⟨st, S, ds, m, cv, r, o⟩ => ?_) fun cdv A outer s H vs Q E hr ⟨st, S, ds, m, cv, r, o⟩ => ⟨_, (by have z := (hb cdv A outer s H E hr).ps; rw [xi_room (X := cxOf (L2N.CX P w) P w K mg base N qual scope f cdv A outer s H E) hr] at z; exact z), ?_⟩
  · unfold runFF at o
    by_cases h : ds.length = ps.length
    · rw [r.length, h]
    · rw [if_neg h] at o; exact o.elim
  · unfold runFF at o
    by_cases h : ds.length = ps.length
    case neg => rw [if_neg h] at o; exact o.elim
    rw [if_pos h] at o
    have hl : vs.length = ps.length := r.length.trans h
    have noOwn : ∀ i a, ¬ OwnAt (ds.map .va ++ List.replicate (N.length - ps.length) .no) (L2.start N vs) i a := fun i a ⟨⟨s, h1, h2⟩, _⟩ => by
      have hm := List.mem_of_getElem? h1
      rcases List.mem_append.mp hm with hm | hm
      · obtain ⟨d, _, e⟩ := List.mem_map.mp hm
        rw [← e] at h2; cases h2
      · rw [(List.mem_replicate.mp hm).2] at h2; cases h2
    have low : ∀ (i : Nat) (sl : Sl), (ds.map Sl.va ++ List.replicate (N.length - ps.length) Sl.no)[i]? = some sl → (∃ d, ds[i]? = some d ∧ sl = .va d) ∨ sl = .no := fun i sl h1 => by
      by_cases hi : i < ds.length
      · rw [List.getElem?_append_left (by simpa using hi), List.getElem?_map] at h1
        obtain ⟨d, h2, h3⟩ := Option.map_eq_some_iff.mp h1
        exact .inl ⟨d, h2, h3.symm⟩
      · rw [List.getElem?_append_right (by simpa using hi)] at h1
        exact .inr (List.mem_replicate.mp (List.mem_of_getElem? h1)).2
    have kk : Kept K st S H H m := ⟨cv, cv.dom, Chg.refl H⟩
    have ee : EnvS K st S H H (L2.start N vs) (ds.map .va ++ List.replicate (N.length - ps.length) .no) := by
      refine ⟨fun i d h1 => ?_, fun i xs h1 => ?_, fun i c fs h1 => ?_, fun i j a oi => (noOwn i a oi).elim, ?_⟩
      · rcases low i _ h1 with ⟨d', h2, h3⟩ | h3
        · cases h3
          obtain ⟨v, g1, g2⟩ := r.get h2
          refine ⟨v, ?_, g2.mono (B := noB) (Chg.refl H) (fun _ z => z.elim) fun a z => z.elim id fun ⟨i, oi⟩ => (noOwn i a oi).elim⟩
          unfold L2.start
          rw [List.getElem?_append_left (by simpa using (List.getElem?_eq_some_iff.mp g1).1), List.getElem?_map, g1]; rfl
        · cases h3
      · rcases low i _ h1 with ⟨d', h2, h3⟩ | h3 <;> cases h3
      · rcases low i _ h1 with ⟨d', h2, h3⟩ | h3 <;> cases h3
      · unfold L2.start
        simp [hl, h]
    refine ⟨st, S, _, m, H, kk, ee, ?_⟩
    cases q : G (ds.map .va ++ List.replicate (N.length - ps.length) .no) m with
    | bad => rw [q] at o; exact o.elim
    | err c fs m1 => rw [q] at o; exact o.elim
    | ok f m1 =>
      rw [q] at o
      cases f with
      | rf d => exact fun p vs H1 n1 k1 h1 r1 => o p vs H1 n1 k1.chg k1.cov h1 r1
      | nx _ => exact o.elim
      | rt _ => exact o.elim
      | ex c fs ρ1 => exact fun dd fv σ1 H1 k1 e1 h1 h2 r1 => o dd fv H1 k1.chg k1.cov h1 h2 r1
      | bk ρ1 => exact o.elim
      | ct ρ1 => exact o.elim
end
end Den
set_option Elab.async false
set_option linter.all false
set_option maxRecDepth 100000
set_option maxHeartbeats 4000000
namespace Den
open PySem PySem.Spec PyProof.Rows L2
section
variable {X : Cx} {W : WX} {pos : Pos} {e : Expr} {F : EV → M D} {k : Nat} {fa : Addr} {fd : FuncData} {ps : List Str} {c f : Str}
/-- e.f, an attribute -/
def dFld (c f : Str) : D → M D
  | .obj c' fs => if c' = c then ofO (fs.lookup f) else M.bad
  | _ => M.bad
def gFld (c f : Str) (F : EV → M D) : EV → M D := fun ρ => do let x ← F ρ; dFld c f x
theorem se_fld (C : Cls X.K (He.ga X.K c)) (n : NoAttr X.K (He.ga X.K c) f) (h : SE X W e F) (hb : attributeBase e f X.env (eval e X.env) = eval e X.env := by rfl) : SE X W (.Attribute e f pos) (gFld c f F) := by
  refine .imp (pe_fld h.pe hb) fun σ H Q ⟨st, S, ρ, m, cv, er, o⟩ => ?_
  refine TE.bind (G := fun x _ => dFld c f x) cv er o fun v d m1 H1 c1 cv1 er1 r1 o1 => ?_
  cases r1 with
  | @obj a dx c' fv fs na ha rf =>
    replace o1 : Out X.K st S H1 ((if c' = c then ofO (fs.lookup f) else M.bad) m1) Q (WE W σ) := o1
    by_cases hc : c' = c
    · rw [if_pos hc] at o1
      subst hc
      obtain ⟨d, hd, o2⟩ := out_ofO o1
      obtain ⟨v, h1, h2⟩ := rf.get hd
      exact ⟨a, _, dx, fv, v, rfl, ha, C, n, h1, out_pure cv1 o2 h2⟩
    · rw [if_neg hc] at o1; exact o1.elim
  | _ => exact o1.elim
/-- an object of the class c -/
def isObj (c : Str) : D → Bool
  | .obj c' _ => decide (c' = c)
  | _ => false
theorem rep_obj {K : PySem.W.Frag} {st : Stx xi} {S : Addr → Prop} {H : Hp} {v : V} {d : D} (r : Rep K st S H v d) (h : isObj c d = true) : ∃ a dx fv, v = .ref a ∧ H a = some (.ins (He.ga K c) dx fv) := by
  cases r <;> try (cases h; done)
  rename_i na ha rf
  have hc := of_decide_eq_true h
  subst hc
  exact ⟨_, _, _, rfl, ha⟩
/-- e.f, a property whose getter is read as g -/
def gProp (c : Str) (g : List D → M D) (F : EV → M D) : EV → M D := fun ρ => do let x ← F ρ; need (isObj c x); noErr (g [x])
theorem out_noErr {K : PySem.W.Frag} {st : Stx xi} {S : Addr → Prop} {H : Hp} {x : M D} {m : SM} {Q : VK} {E E' : XK} (o : Out K st S H (noErr x m) Q E) : Out K st S H (x m) Q E' := by
  rcases noErr_cases x m with ⟨a, m', h1, h2⟩ | h
  · rw [h2] at o; rw [h1]; exact o
  · rw [h] at o; exact o.elim
theorem passN {X : Cx} : Passes (L2N.CX X.prog X.w) X.nox E0 := passL (X := X.nox)
theorem se_prop {p : Addr} {g : List D → M D} (C : Cls X.K (He.ga X.K c)) (hp : PropOf X.K (He.ga X.K c) f p fa) (Fn : FnOk X.prog X.w X.K X.mg X.base (L2N.CX X.prog X.w) k fa fd ps (spOf X.K g)) (hr : Room (k + 1) X.A) (hb : Binds X.K fd ps []) (h : SE X W e F)
    (hab : attributeBase e f X.env (eval e X.env) = eval e X.env := by rfl) : SE X W (.Attribute e f pos) (gProp c g F) := by
  refine .imp (pe_prop h.pe C hp Fn hr hb .nil passN hab) fun σ H Q h => ?_
  rw [xi_room hr] at h ⊢
  obtain ⟨st, S, ρ, m, cv, er, o⟩ := h
  refine TE.bind (G := fun x _ => do need (isObj c x); noErr (g [x])) cv er o fun v d m1 H1 c1 cv1 er1 r1 o1 => ?_
  obtain ⟨hc, o2⟩ := out_need (P := fun r => Out X.K st S H1 r Q (WE W σ)) (fun z => z) o1
  obtain ⟨a, dx, fv, e1, e2⟩ := rep_obj r1 hc
  subst e1
  exact ⟨a, dx, fv, rfl, e2, st, S, [d], m1, cv1, .cons r1 .nil, out_noErr o2⟩
/-- ~e of an own class -/
def gInv (c : Str) (g : List D → M D) (F : EV → M D) : EV → M D := fun ρ => do let x ← F ρ; need (isObj c x); g [x]
theorem fr_inst {pins : List (Addr × Obj)} {σ : L2.St} {H : Hp} {s : Shared} {a C dx : Addr} {fv : List (Str × V)} (I : Inv X pins σ H s) (h : H a = some (.ins C dx fv)) : (∃ m, Fr X.base X.env.locals s.heap m) ∧ ∃ od, PySem.W.InstAt s.heap a (PySem.W.instObj C dx) C (some od) := by
  obtain ⟨mA, J, _⟩ := ins_get I.hok h
  obtain ⟨od, J2, _⟩ := J.look
  exact ⟨I.fr, od, J2⟩
theorem relRef0 (a : Addr) : RelV (.ref a) (.ref a) := rfl
/-- a == b: of an own class by its __eq__, else of data -/
def dEqO (c : Str) (g : List D → M D) (x y : D) : M D := if isObj c x = true then (do let z ← noErr (g [x, y]); need (match z with | .bl _ => true | _ => false); pure z) else dEq x y
theorem cmpBack {pins : List (Addr × Obj)} {σ : L2.St} {Q : VK} {u : Value} {s' : Shared} (h : EP X pins σ Q u s') : PySem.W.CmpBack (fun u s' => EP X pins σ Q u s') u s' := by
  have h0 := h
  obtain ⟨v, H', I, r, q⟩ := h
  cases v with
  | non => obtain rfl : u = Value.none := r; exact h0
  | bl b => obtain rfl : u = Value.bool b := r; exact h0
  | int i => obtain ⟨t, rfl⟩ := r; exact h0
  | str x => obtain ⟨t, rfl⟩ := r; exact h0
  | byt x => obtain ⟨t, rfl⟩ := r; exact h0
  | flt x => obtain ⟨t, rfl⟩ := r; exact h0
  | ref a => obtain rfl : u = Value.ref a := r; exact h0
  | ty n => obtain rfl : u = Value.type n := r; exact h0
theorem relRef (a : Addr) : RelV (.ref a) (.ref a) := rfl
theorem op_own_eq {g : List D → M D} (hu : X.A.units + 64 < cLine) (hm : Meth X.K (He.ga X.K c) "__eq__" fa) (Fn : FnOk X.prog X.w X.K X.mg X.base (L2N.CX X.prog X.w) k fa fd ps (spOf X.K g)) (hr : Room k X.A) (hb : Binds X.K fd ps []) :
    OpR X (compareOp .Eq) (fun x y H Q => ∃ a b dx dy fv fw, x = .ref a ∧ y = .ref b ∧ H a = some (.ins (He.ga X.K c) dx fv) ∧ H b = some (.ins (He.ga X.K c) dy fw) ∧ spOf X.K g [x, y] H Q E0) := by
  intro pins s σ H x y v u Q I rx ry ⟨a, b, dx, dy, fv, fw, ex, ey, ha, hb', q⟩
  subst ex ey
  obtain rfl : v = Value.ref a := rx
  obtain rfl : u = Value.ref b := ry
  obtain ⟨⟨mm, hF⟩, od, J⟩ := fr_inst I ha
  obtain ⟨_, od', J'⟩ := fr_inst I hb'
  refine PySem.W.cmp_ofEq (PySem.W.cmp_K (op := .Eq) (tb := .ref (He.ga X.K c)) (by omega) hF I.ok.mod.kin J J'.type (by simp [PySem.W.notFirst]) hm.at_ hm.fn ?_)
  exact thn (run_fn (dvs := []) (ds := []) Fn hr hb .nil passL I (.cons (relRef a) (.cons (relRef b) .nil)) q) fun w s' z => cmpBack z
theorem vr_eqO {K : PySem.W.Frag} {g : List D → M D} : VRN K (fun x y H Q => (∃ a b dx dy fv fw, x = .ref a ∧ y = .ref b ∧ H a = some (.ins (He.ga K c) dx fv) ∧ H b = some (.ins (He.ga K c) dy fw) ∧ spOf K g [x, y] H Q E0) ∨ rEqD K x y H Q) (fun x y => do need (isObj c x == isObj c y); dEqO c g x y) := by
  intro st S H m x y dx dy Q E cv rx ry o
  obtain ⟨hx, o1⟩ := out_need (P := fun r => Out K st S H r Q E) (fun z => z) o
  unfold dEqO at o1
  by_cases h : isObj c dx = true
  · rw [if_pos h] at o1
    rw [h] at hx
    have hy : isObj c dy = true := by simpa using hx.symm
    obtain ⟨a, da, fv, e1, e2⟩ := rep_obj rx h
    obtain ⟨b, db, fw, e3, e4⟩ := rep_obj ry hy
    refine .inl ⟨a, b, da, db, fv, fw, e1, e3, e2, e4, st, S, [dx, dy], m, cv, .cons rx (.cons ry .nil), ?_⟩
    rw [bind_run] at o1
    rcases noErr_cases (g [dx, dy]) m with ⟨z, m', h1, h2⟩ | h2
    · rw [h2] at o1
      rw [h1]
      exact (out_need (P := fun r => Out K st S H r Q E) (fun z => z) o1).2
    · rw [h2] at o1; exact o1.elim
  · rw [if_neg h] at o1
    exact .inr (vr_eq st S H m x y dx dy Q E cv rx ry o1)
inductive Cl where
  | ty (n : String) | own (c : Str)
def D.tyn : D → String
  | .non => "NoneType"
  | .bl _ => "bool"
  | .int _ => "int"
  | .str _ => "str"
  | .tup _ => "tuple"
  | _ => "list"
/-- is it of this class (oc: the one own class that is known) -/
def isCl (d : D) : Cl → Bool
  | .ty n => (match d with
    | .obj _ _ => false
    | _ => d.tyn == n || (d.tyn == "bool" && n == "int"))
  | .own c => isObj c d
def Cl.v (K : PySem.W.Frag) : Cl → Value
  | .ty n => .type n
  | .own c => .ref (He.ga K c)
def Cl.okB (oc : Option Str) : Cl → Bool
  | .ty n => ["bool", "int", "str", "tuple", "list"].contains n
  | .own c => oc == some c
/-- what K knows of the class, for isinstance -/
structure InstC (K : PySem.W.Frag) (c : Str) : Prop where
  cls : Cls K (He.ga K c)
  cl : PySem.W.findIn K (.ref (He.ga K c)) "__class__" = some (some (.builtin "object.__class__"))
  get : PySem.W.specialIn K (.builtin "object.__class__") "__get__" = some (some (.builtin "getset_descriptor.__get__"))
  tak : PySem.W.takesIn K (.builtin "object.__class__") = some true
  mro : PySem.W.mroIn K (He.ga K c) (.type "object") = some true
  of_ty : ∀ n ∈ ["NoneType", "bool", "int", "str", "tuple", "list"], PySem.W.kitOne K (.type n) (.ref (He.ga K c)) = some false
  to_ty : ∀ n ∈ ["bool", "int", "str", "tuple", "list"], PySem.W.kitOne K (.ref (He.ga K c)) (.type n) = some false
/-- things that isinstance is asked of: data, or objects of the class oc -/
def D.plainOr (oc : Option Str) : D → Bool
  | .obj c _ => oc == some c
  | .sto => false
  | .scr _ => false
  | .exc _ _ => false
  | .rng _ _ => false
  | _ => true
def D.tyV (K : PySem.W.Frag) : D → Value
  | .obj c _ => .ref (He.ga K c)
  | d => .type d.tyn
theorem rep_ty {K : PySem.W.Frag} {st : Stx xi} {S : Addr → Prop} {H : Hp} {v : V} {d : D} {oc : Option Str} (hc : ∀ c, oc = some c → InstC K c) (r : Rep K st S H v d) (h : d.plainOr oc = true) : TyX K H v (d.tyV K) := by
  cases r with
  | non => exact .base .non
  | bl b => exact .base (.bl b)
  | int i => exact .base (.int i)
  | str x => exact .base (.str x)
  | tup hs _ =>
    rcases hs with ⟨o, hs, _⟩ | ⟨o, its, n, hk, hc, _⟩
    · exact .fTuple hs
    · exact .kTuple hk hc
  | lst _ hs _ => exact .base (.lst hs)
  | obj _ hs _ =>
    have z := hc _ (eq_of_beq h)
    exact .base (.ins hs z.cls z.cl z.get z.tak z.mro)
  | sto _ => cases h
  | exc _ _ _ _ _ _ => cases h
  | rng _ => cases h
  | scr _ => cases h
theorem kit_tab : ∀ a ∈ ["NoneType", "bool", "int", "str", "tuple", "list"], ∀ b ∈ ["bool", "int", "str", "tuple", "list"], kitB a b = some (a == b || (a == "bool" && b == "int")) := by decide +kernel
theorem kit_one {K : PySem.W.Frag} {oc : Option Str} (hc : ∀ c, oc = some c → InstC K c) {d : D} {cl : Cl} (h : d.plainOr oc = true) (hl : cl.okB oc = true) : PySem.W.kitOne K (d.tyV K) (cl.v K) = some (isCl d cl) := by
  cases cl with
  | own c =>
    have z := hc c (eq_of_beq hl)
    cases d with
    | obj c' fs =>
      have e : c' = c := by
        have h1 : oc = some c' := eq_of_beq h
        have h2 : oc = some c := eq_of_beq hl
        rw [h1] at h2; exact Option.some.inj h2
      subst e
      show PySem.W.kitOne K (.ref (He.ga K c')) (.ref (He.ga K c')) = some (decide (c' = c'))
      unfold PySem.W.kitOne
      simp
    | sto => cases h
    | exc _ _ => cases h
    | rng _ _ => cases h
    | scr _ => cases h
    | non => exact z.of_ty "NoneType" (by simp)
    | bl _ => exact z.of_ty "bool" (by simp)
    | int _ => exact z.of_ty "int" (by simp)
    | str _ => exact z.of_ty "str" (by simp)
    | tup _ => exact z.of_ty "tuple" (by simp)
    | lst _ => exact z.of_ty "list" (by simp)
  | ty n =>
    have hn : n ∈ ["bool", "int", "str", "tuple", "list"] := by
      have : ["bool", "int", "str", "tuple", "list"].contains n = true := hl
      exact List.contains_iff_mem.mp this
    cases d with
    | obj c' fs =>
      have z := hc c' (eq_of_beq h)
      exact z.to_ty n hn
    | sto => cases h
    | exc _ _ => cases h
    | rng _ _ => cases h
    | scr _ => cases h
    | non => exact kit_ty (kit_tab "NoneType" (by simp) n hn)
    | bl _ => exact kit_ty (kit_tab "bool" (by simp) n hn)
    | int _ => exact kit_ty (kit_tab "int" (by simp) n hn)
    | str _ => exact kit_ty (kit_tab "str" (by simp) n hn)
    | tup _ => exact kit_ty (kit_tab "tuple" (by simp) n hn)
    | lst _ => exact kit_ty (kit_tab "list" (by simp) n hn)
theorem kit_any {K : PySem.W.Frag} {oc : Option Str} (hc : ∀ c, oc = some c → InstC K c) {d : D} (h : d.plainOr oc = true) : ∀ {cls : List Cl}, cls.all (fun cl => cl.okB oc) = true → PySem.W.kitAny K (d.tyV K) (cls.map (Cl.v K)) = some (cls.any (isCl d))
  | [], _ => kitAny_nil
  | cl :: r, hl => by
    rw [List.all_cons] at hl
    obtain ⟨h1, h2⟩ := Bool.and_eq_true_iff.mp hl
    rw [List.any_cons]
    refine kitAny_cons (b := isCl d cl) (kit_one hc h h1) (fun e => ?_) fun e => ?_
    · rw [e, Bool.false_or]
      exact kit_any hc h h2
    · rw [e, Bool.true_or]
def gIsi (oc : Option Str) (cls : List Cl) (F : EV → M D) : EV → M D := fun ρ => do let x ← F ρ; need (x.plainOr oc); pure (.bl (cls.any (isCl x)))
/-- isinstance(e, T): hT reads T as a value -/
theorem se_isi {oc : Option Str} {cl : Cl} {t : Expr} {p : Pos} {vc : V} (hc : ∀ c, oc = some c → InstC X.K c) (hl : cl.okB oc = true) (ha : SE X W e F) (hT : PE X t (tC vc)) (hv : ClsV vc (cl.v X.K)) (hg : Gl X "isinstance") (hm : X.mg "isinstance" = none)
    (he : starEach (e :: [t]) X.env = (false, eval e X.env) :: starEach [t] X.env := by rfl) (he2 : starEach [t] X.env = (false, eval t X.env) :: starEach [] X.env := by rfl) (hpl : (backTo pos (starEach [t] X.env)).any (·.1) = false := by rfl) :
    SE X W (.Call (.Name "isinstance" p) [e, t] [] pos) (gIsi oc [cl] F) := by
  refine .imp (pe_callB call_isi hg hm (by decide +kernel) (pa_cons ha.pe (pa_cons hT pa_nil he2) he) (by decide) (by decide) he hpl) fun σ H Q ⟨st, S, ρ, m, cv, er, o⟩ => ?_
  refine TE.bind (G := fun x _ => do need (x.plainOr oc); pure (.bl ([cl].any (isCl x)))) cv er o fun v d m1 H1 c1 cv1 er1 r1 o1 => ?_
  obtain ⟨h, o2⟩ := out_need (P := fun r => Out X.K st S H1 r Q (WE W σ)) (fun z => z) o1
  refine ⟨v, vc, _, _, _, rfl, hv, rep_ty hc r1 h, kit_one hc h hl, ?_⟩
  have := out_pure (v := .bl ([cl].any (isCl d))) cv1 o2 (.bl _)
  simpa using this
/-- isinstance(e, (T, ..)) -/
theorem se_isiT {oc : Option Str} {cls : List Cl} {ts : List Expr} {x1} {p tpos : Pos} {vs : List V} (hc : ∀ c, oc = some c → InstC X.K c) (hl : cls.all (fun cl => cl.okB oc) = true) (ha : SE X W e F) (hT : PA X ts (fun _ H Q => Q vs H)) (hv : Paired ClsV vs (cls.map (Cl.v X.K))) (hz : vs.length ≤ 1000) (hg : Gl X "isinstance") (hm : X.mg "isinstance" = none)
    (he : starEach (e :: [.Tuple ts x1 tpos]) X.env = (false, eval e X.env) :: starEach [.Tuple ts x1 tpos] X.env := by rfl) (he2 : starEach [.Tuple ts x1 tpos] X.env = (false, eval (.Tuple ts x1 tpos) X.env) :: starEach [] X.env := by rfl) (hpl : (backTo pos (starEach [.Tuple ts x1 tpos] X.env)).any (·.1) = false := by rfl) :
    SE X W (.Call (.Name "isinstance" p) [e, .Tuple ts x1 tpos] [] pos) (gIsi oc cls F) := by
  refine .imp (pe_callB call_isiT hg hm (by decide +kernel) (pa_cons ha.pe (pa_cons (pe_tup hT) pa_nil he2) he) (by decide) (by decide) he hpl) fun σ H Q ⟨st, S, ρ, m, cv, er, o⟩ => ?_
  refine TE.bind (G := fun x _ => do need (x.plainOr oc); pure (.bl (cls.any (isCl x)))) cv er o fun v d m1 H1 c1 cv1 er1 r1 o1 => ?_
  obtain ⟨h, o2⟩ := out_need (P := fun r => Out X.K st S H1 r Q (WE W σ)) (fun z => z) o1
  refine ⟨by rw [sizeLine_eq]; omega, fun q hq => ?_⟩
  have r2 := r1.new (o := .tup vs) hq
  refine ⟨v, q, vs, _, _, _, rfl, upd_same, hv, rep_ty hc r2 h, kit_any hc h hl, ?_⟩
  exact o2 _ _ (Chg.new hq) (cv1.new hq) (.bl _)
end
end Den
set_option Elab.async false
set_option linter.all false
set_option maxRecDepth 100000
set_option maxHeartbeats 4000000
namespace Den
open PySem PySem.Spec PyProof.Rows L2
/-- the fields with f stored -/
def putD (f : Str) (d : D) : List (Str × D) → List (Str × D)
  | [] => [(f, d)]
  | (g, e) :: r => if g = f then (g, d) :: r else (g, e) :: putD f d r
theorem RepF.put {K : PySem.W.Frag} {st : Stx xi} {S : Addr → Prop} {H : Hp} {v : V} {d : D} {f : Str} (r : Rep K st S H v d) : ∀ {fv : List (Str × V)} {fs : List (Str × D)}, RepF K st S H fv fs → RepF K st S H (putF f v fv) (putD f d fs)
  | _, _, .nil => .cons r .nil
  | _, _, .cons (x := x) h t => by
    show RepF K st S H (if x = f then _ else _) (if x = f then _ else _)
    by_cases e : x = f
    · rw [if_pos e, if_pos e]
      exact .cons r t
    · rw [if_neg e, if_neg e]
      exact .cons h (RepF.put r t)
theorem RepF.length {K : PySem.W.Frag} {st : Stx xi} {S : Addr → Prop} {H : Hp} : ∀ {fv : List (Str × V)} {fs : List (Str × D)}, RepF K st S H fv fs → fv.length = fs.length
  | _, _, .nil => rfl
  | _, _, .cons _ t => by simp [RepF.length t]
section
variable {K : PySem.W.Frag} {st : Stx xi} {S : Addr → Prop} {H0 H : Hp} {σ : L2.St} {ρ : SV} {m : SM}
/-- the own instance in slot i gets another field -/
theorem EnvS.writeOb {i : Nat} {a dx : Addr} {c f : Str} {fs : List (Str × D)} {fv : List (Str × V)} {v : V} {d : D} (k : Kept K st S H0 H m) (e : EnvS K st S H0 H σ ρ) (h : ρ[i]? = some (.ob c fs)) (hs : σ[i]? = some (some (.ref a))) (ha : H a = some (.ins (He.ga K c) dx fv)) (rf : RepF K st (Av S ρ σ) H fv fs)
    (r : Rep K st (Av S ρ σ) H v d) : Kept K st S H0 (upd H a (.ins (He.ga K c) dx (putF f v fv))) m ∧ EnvS K st S H0 (upd H a (.ins (He.ga K c) dx (putF f v fv))) σ (ρ.set i (.ob c (putD f d fs))) ∧
      Pers K st S H σ ρ (upd H a (.ins (He.ga K c) dx (putF f v fv))) σ (ρ.set i (.ob c (putD f d fs))) := by
  have oi : OwnAt ρ σ i a := ⟨⟨_, h, rfl⟩, hs⟩
  have h0 : H0 a = none := (e.own oi).2
  have hl := (List.getElem?_eq_some_iff.mp h).1
  have same := own_same (σ := σ) (s' := .ob c (putD f d fs)) h rfl rfl
  have av : ∀ b, Av S (ρ.set i (.ob c (putD f d fs))) σ b → Av S ρ σ b := fun b z => z.imp id fun ⟨j, o⟩ => ⟨j, (same j b).mp o⟩
  have cw : Chg (fun b => b = a) H (upd H a (.ins (He.ga K c) dx (putF f v fv))) := Chg.write ha rfl rfl
  have sub : ∀ b, b = a → Av S ρ σ b := fun b z => .inr ⟨i, by rw [z]; exact oi⟩
  have nS : ¬ S a := k.not h0
  have low : ∀ {j : Nat} {s : Sl}, j ≠ i → (ρ.set i (.ob c (putD f d fs)))[j]? = some s → ρ[j]? = some s := fun {j s} h q => by rw [List.getElem?_set_ne (Ne.symm h)] at q; exact q
  have at_i : ∀ {s : Sl}, (ρ.set i (.ob c (putD f d fs)))[i]? = some s → s = .ob c (putD f d fs) := fun {s} q => by
    rw [List.getElem?_set_self hl] at q
    exact (Option.some.inj q).symm
  have ne : ∀ {j : Nat} {b : Addr}, j ≠ i → OwnAt ρ σ j b → b ≠ a := fun hj oj z => hj (e.dis _ _ a (by rw [← z]; exact oj) oi)
  refine ⟨⟨k.cov.keep cw fun b z => by rw [z]; exact nS, k.dom0, fun b u q => ?_⟩, ⟨fun j u q => ?_, fun j zs q => ?_, fun j cn gs q => ?_, fun j l b oj ol => e.dis j l b ((same j b).mp oj) ((same l b).mp ol), by simp [e.len]⟩, fun v d q => q.mono cw sub av, fun j cn gs q => ?_⟩
  · have nb : b ≠ a := fun z => by rw [z, h0] at q; cases q
    rw [upd_ne nb]
    exact k.chg b u q
  · by_cases hj : j = i
    · subst hj; cases at_i q
    · obtain ⟨v, g1, g2⟩ := e.va j u (low hj q)
      exact ⟨v, g1, g2.mono cw sub av⟩
  · by_cases hj : j = i
    · subst hj; cases at_i q
    · obtain ⟨b, us, g1, g2, g3, g4⟩ := e.ow j zs (low hj q)
      exact ⟨b, us, g1, by rw [upd_ne (ne hj ⟨⟨_, low hj q, rfl⟩, g1⟩)]; exact g2, g3, g4.mono cw sub av⟩
  · by_cases hj : j = i
    · subst hj
      cases at_i q
      exact ⟨a, dx, _, hs, upd_same, h0, (rf.put r).mono cw sub av⟩
    · obtain ⟨b, dy, gv, g1, g2, g3, g4⟩ := e.ob j cn gs (low hj q)
      exact ⟨b, dy, gv, g1, by rw [upd_ne (ne hj ⟨⟨_, low hj q, rfl⟩, g1⟩)]; exact g2, g3, g4.mono cw sub av⟩
  · by_cases hj : j = i
    · subst hj
      cases at_i q
      exact ⟨⟨fs, h⟩, rfl⟩
    · exact ⟨⟨gs, low hj q⟩, rfl⟩
end
section
variable {X : Cx} {W : WX} {pos : Pos} {s : Stmt}
/-- self.f = e, self in slot i -/
def gFldSet (i : Nat) (c f : Str) (F : EV → M D) : SV → M Fl := fun ρ => exB (F (vw [] ρ)) ρ fun d => match ρ[i]? with
  | some (.ob c' fs) => do
    need (decide (c' = c) && decide (fs.length < 1000))
    pure (.nx (ρ.set i (.ob c' (putD f d fs))))
  | _ => M.bad
theorem ss_fld {i : Nat} {c f : Str} {F : EV → M D} (C : Cls X.K (He.ga X.K c)) (n : NoAttr X.K (He.ga X.K c) f) (h : PS X s (sFld X.K (tVar i) (TE X.xi X.K W F) f)) : SS1 X W s (gFldSet i c f F) := by
  refine ⟨PS.imp h fun Dn σ H ⟨st, S, ρ, m, H0, k, e, o⟩ => ?_⟩
  refine TE.stm (mk := []) k e o fun v d m1 H1 c1 k1 cv1 e1 r1 o1 => ?_
  cases q : ρ[i]? with
  | none => rw [q] at o1; exact o1.elim
  | some sl =>
    rw [q] at o1
    cases sl with
    | ob c' fs =>
      obtain ⟨hf, o2⟩ := out_need (P := fun r => OutS X.K W st S H0 H1 σ ρ r Dn) (fun z => z) o1
      obtain ⟨hc, hz⟩ := Bool.and_eq_true_iff.mp hf
      have hc := of_decide_eq_true hc
      subst hc
      have hz := of_decide_eq_true hz
      obtain ⟨a, dx, fv, g1, g2, g3, g4⟩ := e1.ob i c' fs q
      have r2 : Rep X.K st (Av S ρ σ) H1 v d := r1.mono (B := noB) (Chg.refl H1) (fun _ z => z.elim) AvM.nil
      obtain ⟨k2, e2, p2⟩ := EnvS.writeOb (f := f) k1 e1 q g1 g2 g4 r2
      exact ⟨.ref a, g1, a, He.ga X.K c', dx, fv, rfl, g2, C, n, by rw [g4.length]; exact hz, o2 σ _ k2 e2 p2⟩
    | no => exact o1.elim
    | va d => exact o1.elim
    | ow xs => exact o1.elim
/-- what an __init__ promises: g tells the fields by the arguments behind self -/
def spIni (K : PySem.W.Frag) (c : Str) (g : List D → M (List (Str × D))) : Sp := fun vs H Q E => ∃ (st : Stx none) (S : Addr → Prop) (ds : List D) (m : SM) (H0 : Hp) (x dx : Addr) (us : List V), vs = .ref x :: us ∧ H0 x = none ∧ H0 dx = none ∧ dx ≠ x ∧ H = upd (upd H0 dx (.own x)) x (.ins (He.ga K c) dx []) ∧ Cov K st S H0 m ∧ RepL K st S H0 us ds ∧
  (match g ds m with
  | .ok fs m' => ∀ H' dy fv, Chg (atSt st) H0 H' → Cov K st S H' m' → H' x = some (.ins (He.ga K c) dy fv) → RepF K st S H' fv fs → Q .non H'
  | .err cn fs m' => ∀ dd fv H', Chg (atSt st) H0 H' → Cov K st S H' m' → H' dd = some (.xd fv) → H0 dd = none → RepF K st S H' fv fs → E (.ref (He.ga K cn)) (some dd) H'
  | .bad => False)
def runI (c : Str) (p n : Nat) (G : SV → M Fl) : List D → M (List (Str × D)) := fun ds m => if ds.length + 1 = p then (match G (.ob c [] :: (ds.map .va ++ List.replicate (n - p) .no)) m with
  | .ok (.nx (.ob _ fs :: _)) m' => .ok fs m'
  | .ok (.ex cn fs _) m' => .err cn fs m'
  | _ => .bad) else .bad
theorem fn_ini {P : Program} {w : World} {K : PySem.W.Frag} {mg : Str → Option Value} {base : Heap} {x qual c : Str} {params : Arguments} {body : List Stmt} {scope : Scope} {dvs : List V} {kws : List (Str × V)} {f : Addr} {fd : FuncData} {N ps : List Str} {k : Nat} {G : SV → M Fl}
    (F : FunD K x qual params body scope dvs kws f fd) (Sc : FnScope N ps scope)
    (hb : ∀ (cdv : Value) (A : Around) (outer : List Env) (s : Shared) (H : Hp) (E : XK), Room k (A.deeper (envOfC qual scope s.heap.objs.size f cdv)) → SS (cxOf (L2N.CX P w) P w K mg base N qual scope f cdv A outer s H E) (wE E) body G) :
    FnOk P w K mg base (L2N.CX P w) (k + 1) f fd ps (spIni K c (runI c ps.length N.length G)) := by
  refine F.ok Sc (fun vs H Q E ⟨st, S, ds, m, H0, x, dx, us, e1, n1, n2, ne, eH, cv, r, o⟩ => ?_) fun cdv A outer s H vs Q E hr ⟨st, S, ds, m, H0, x, dx, us, e1, n1, n2, ne, eH, cv, r, o⟩ => ⟨_, (by have z := (hb cdv A outer s H E hr).ps; rw [xi_room (X := cxOf (L2N.CX P w) P w K mg base N qual scope f cdv A outer s H E) hr] at z; exact z), ?_⟩
  · unfold runI at o
    by_cases h : ds.length + 1 = ps.length
    · rw [e1, List.length_cons, r.length, h]
    · rw [if_neg h] at o; exact o.elim
  · unfold runI at o
    by_cases h : ds.length + 1 = ps.length
    case neg => rw [if_neg h] at o; exact o.elim
    rw [if_pos h] at o
    have hl : vs.length = ps.length := by rw [e1, List.length_cons, r.length]; exact h
    subst e1
    have hx : H x = some (.ins (He.ga K c) dx []) := by rw [eH]; exact upd_same
    have c0 : Chg noB H0 H := by
      rw [eH]
      refine (Chg.new n2).trans (Chg.new ?_)
      rw [upd_ne (Ne.symm ne)]; exact n1
    have nSx : ¬ S x := cv.out n1
    have startEq : L2.start N (.ref x :: us) = some (.ref x) :: (us.map some ++ List.replicate (N.length - ps.length) none) := by
      unfold L2.start
      rw [hl]; rfl
    rw [startEq]
    generalize hρ : (Sl.ob c [] :: (ds.map .va ++ List.replicate (N.length - ps.length) .no)) = ρ0 at o
    have at0 : ρ0[0]? = some (.ob c []) := by rw [← hρ]; rfl
    have low : ∀ (i : Nat) (sl : Sl), ρ0[i]? = some sl → (i = 0 ∧ sl = .ob c []) ∨ (∃ j d, i = j + 1 ∧ ds[j]? = some d ∧ sl = .va d) ∨ sl = .no := fun i sl h1 => by
      rw [← hρ] at h1
      cases i with
      | zero => exact .inl ⟨rfl, (Option.some.inj h1).symm⟩
      | succ j =>
        rw [List.getElem?_cons_succ] at h1
        by_cases hi : j < ds.length
        · rw [List.getElem?_append_left (by simpa using hi), List.getElem?_map] at h1
          obtain ⟨d, h2, h3⟩ := Option.map_eq_some_iff.mp h1
          exact .inr (.inl ⟨j, d, rfl, h2, h3.symm⟩)
        · rw [List.getElem?_append_right (by simpa using hi)] at h1
          exact .inr (.inr (List.mem_replicate.mp (List.mem_of_getElem? h1)).2)
    have onlyX : ∀ i a, OwnAt ρ0 (some (.ref x) :: (us.map some ++ List.replicate (N.length - ps.length) none)) i a → i = 0 ∧ a = x := fun i a ⟨⟨s, h1, h2⟩, h3⟩ => by
      rcases low i s h1 with ⟨hi, _⟩ | ⟨j, d, _, _, e⟩ | e
      · subst hi
        refine ⟨rfl, ?_⟩
        have : (some (V.ref x)) = some (V.ref a) := Option.some.inj h3
        cases this; rfl
      · rw [e] at h2; cases h2
      · rw [e] at h2; cases h2
    have avN : ∀ a, Av S ρ0 (some (.ref x) :: (us.map some ++ List.replicate (N.length - ps.length) none)) a → S a ∨ H0 a = none := fun a z => z.imp id fun ⟨i, oi⟩ => by rw [(onlyX i a oi).2]; exact n1
    have kk : Kept K st S H0 H m := ⟨cv.keep c0 fun _ z => z.elim, cv.dom, c0.mono fun _ z => z.elim⟩
    have ee : EnvS K st S H0 H (some (.ref x) :: (us.map some ++ List.replicate (N.length - ps.length) none)) ρ0 := by
      refine ⟨fun i d h1 => ?_, fun i xs h1 => ?_, fun i c' fs h1 => ?_, fun i j a oi oj => (onlyX i a oi).1.trans (onlyX j a oj).1.symm, ?_⟩
      · rcases low i _ h1 with ⟨_, e⟩ | ⟨j, d', hi, h2, h3⟩ | e
        · cases e
        · cases h3
          subst hi
          obtain ⟨v, g1, g2⟩ := r.get h2
          refine ⟨v, ?_, (g2.wide avN).mono c0 (fun _ z => z.elim) fun _ z => z⟩
          rw [List.getElem?_cons_succ, List.getElem?_append_left (by simpa using (List.getElem?_eq_some_iff.mp g1).1), List.getElem?_map, g1]; rfl
        · cases e
      · rcases low i _ h1 with ⟨_, e⟩ | ⟨j, d', hi, h2, h3⟩ | e
        · cases e
        · cases h3
        · cases e
      · rcases low i _ h1 with ⟨hi, e⟩ | ⟨j, d', hi, h2, h3⟩ | e
        · cases e
          subst hi
          exact ⟨x, dx, [], rfl, hx, n1, .nil⟩
        · cases h3
        · cases e
      · rw [← hρ]
        simp [r.length]
    refine ⟨st, S, ρ0, m, H0, kk, ee, ?_⟩
    cases q : G ρ0 m with
    | bad => rw [q] at o; exact o.elim
    | err cn fs m1 => rw [q] at o; exact o.elim
    | ok f m1 =>
      rw [q] at o
      cases f with
      | nx ρ1 =>
        intro σ1 H1 k1 e1 p1
        cases ρ1 with
        | nil => exact o.elim
        | cons s0 ρ2 =>
          cases s0 with
          | ob c' fs =>
            obtain ⟨⟨gs, h1⟩, h2⟩ := p1.obs 0 c' fs rfl
            rw [at0] at h1
            cases h1
            obtain ⟨a, dy, fv, g1, g2, g3, g4⟩ := e1.ob 0 c fs rfl
            rw [g1] at h2
            have ea : some (V.ref a) = some (V.ref x) := Option.some.inj h2
            cases ea
            exact o H1 dy fv k1.chg k1.cov g2 (g4.mono (B := noB) (Chg.refl H1) (fun _ z => z.elim) fun _ z => .inl z)
          | no => exact o.elim
          | va d => exact o.elim
          | ow xs => exact o.elim
      | rt d => exact o.elim
      | rf d => exact o.elim
      | ex cn fs ρ1 => exact fun dd fv σ1 H1 k1 e1 h1 h2 r1 => o dd fv H1 k1.chg k1.cov h1 h2 r1
      | bk ρ1 => exact o.elim
      | ct ρ1 => exact o.elim
end
end Den
set_option Elab.async false
set_option linter.all false
set_option maxRecDepth 100000
set_option maxHeartbeats 4000000
namespace Den
open PySem PySem.Spec PyProof.Rows L2
structure SK (X : Cx) (W : WX) (kws : List Keyword) (A : EV → M (List D)) : Prop where
  pk : PK X kws (TAD X.xi X.K W A)
theorem PK.imp {X : Cx} {es : List Keyword} {t t' : L2.TA} (h : PK X es t) (i : ∀ σ H Q, t' σ H Q → t σ H Q) : PK X es t' := ⟨fun pos pins s σ H Q I q => h.run pos pins s σ H Q I (i σ H Q q)⟩
section
variable {X : Cx} {W : WX} {pos kpos : Pos} {nm : Option Str}
theorem sk_nil : SK X W [] (fun _ => pure []) := ⟨PK.imp pk_nil fun σ H Q ⟨st, S, ρ, m, cv, er, o⟩ => o [] H (Chg.refl H) cv .nil⟩
theorem cons_imp {K : PySem.W.Frag} {F : EV → M D} {A : EV → M (List D)} {σ : L2.St} {H : Hp} {Q : List V → Hp → Prop} (h : TAD xi K W (fun ρ => do let d ← F ρ; let ds ← A ρ; pure (d :: ds)) σ H Q) : tCons (TE xi K W F) (TAD xi K W A) σ H Q := by
  obtain ⟨st, S, ρ, m, cv, er, o⟩ := h
  refine TE.bindL (G := fun d ρ => do let ds ← A ρ; pure (d :: ds)) cv er o fun v d m1 H1 c1 cv1 er1 r1 o1 => ?_
  refine ⟨st, S, ρ, m1, cv1, er1, ?_⟩
  rw [bind_run] at o1
  cases e1 : A ρ m1 with
  | ok ds m2 =>
    rw [e1] at o1
    exact fun vs H2 c2 cv2 r2 => o1 _ H2 c2 cv2 (.cons (r1.mono c2 cv1.sub fun _ z => z) r2)
  | err c fs m2 =>
    rw [e1] at o1
    exact o1
  | bad => rw [e1] at o1; exact o1.elim
theorem sk_cons {e : Expr} {kws : List Keyword} {F : EV → M D} {A : EV → M (List D)} (ha : SE X W e F) (hr : SK X W kws A) : SK X W (⟨nm, e, kpos⟩ :: kws) (fun ρ => do let d ← F ρ; let ds ← A ρ; pure (d :: ds)) :=
  ⟨PK.imp (pk_cons ha.pe hr.pk) fun σ H Q h => cons_imp h⟩
/-- the things at these places -/
def pick {α : Type} (p : List Nat) (l : List α) : List α := p.filterMap fun i => l[i]?
theorem RepL.pick {K : PySem.W.Frag} {st : Stx xi} {S : Addr → Prop} {H : Hp} {vs : List V} {ds : List D} (r : RepL K st S H vs ds) : ∀ p : List Nat, RepL K st S H (Den.pick p vs) (Den.pick p ds)
  | [] => .nil
  | i :: p => by
    have ih := RepL.pick r p
    unfold Den.pick at ih ⊢
    rw [List.filterMap_cons, List.filterMap_cons]
    cases e : ds[i]? with
    | none =>
      have : vs[i]? = none := by
        rw [List.getElem?_eq_none_iff] at e ⊢
        rw [r.length]; exact e
      rw [this]; exact ih
    | some d =>
      obtain ⟨v, h1, h2⟩ := r.get e
      rw [h1]
      exact .cons h2 ih
theorem vals_pick {vs : List V} {us : List Value} (r : Vals vs us) : ∀ p : List Nat, Vals (pick p vs) (pick p us)
  | [] => .nil
  | i :: p => by
    have ih := vals_pick r p
    unfold pick at ih ⊢
    rw [List.filterMap_cons, List.filterMap_cons]
    cases e : vs[i]? with
    | none =>
      rw [r.none_of e]; exact ih
    | some d =>
      obtain ⟨u, h1, h2⟩ := r.get e
      rw [h1]
      exact .cons h2 ih
/-- constants as things -/
inductive CV : V → D → Prop where
  | non : CV .non .non
  | bl (b : Bool) : CV (.bl b) (.bl b)
  | int (i : Int) : CV (.int i) (.int i)
theorem CV.rep {K : PySem.W.Frag} {st : Stx xi} {S : Addr → Prop} {H : Hp} {v : V} {d : D} (c : CV v d) : Rep K st S H v d := by
  cases c with
  | non => exact .non
  | bl b => exact .bl b
  | int i => exact .int i
theorem cvs_rep {K : PySem.W.Frag} {st : Stx xi} {S : Addr → Prop} {H : Hp} : ∀ {vs : List V} {ds : List D}, Paired CV vs ds → RepL K st S H vs ds
  | _, _, .nil => .nil
  | _, _, .cons c t => .cons c.rep (cvs_rep t)
structure KB (K : PySem.W.Frag) (fd : FuncData) (ps : List Str) (n : Nat) (ks : List Str) (p : List Nat) (cs : List V) : Prop where
  ex : ∃ us0 : List Value, KBn K fd ps n ks (fun us ws => pick p (us ++ (ws ++ us0))) (fun vs zs => pick p (vs ++ (zs ++ cs)))
section
variable {K : PySem.W.Frag} {x qual : Str} {params : Arguments} {body : List Stmt} {scope : Scope} {kws : List (Str × V)} {f : Addr} {fd : FuncData} {ps : List Str}
/-- keyword-only defaults, of which ms lack -/
theorem kb_kwo (F : FunD K x qual params body scope [] kws f fd) (n : Nat) (ks : List Str) (ms : List (Str × V)) (p : List Nat) (hk : kws ≠ []) (hms : ∀ q ∈ ms, q ∈ kws)
    (h : ∀ (D : Addr) (doc pm : Value) (an : Option Addr) (cdv ct : Value) (us mv ws : List Value), us.length = n → mv.length = ms.length → ws.length = ks.length →
      KwChain D ((ms.map (·.1)).zip mv) (bindArgs (PySem.W.fnOf x qual params body scope .none (.ref D) doc pm an cdv ct) ⟨us, ks.zip ws⟩) (ps.zip (pick p (us ++ (ws ++ mv))))) : KB K fd ps n ks p (ms.map (·.2)) := by
  obtain ⟨mv, q⟩ := F.kbinds0 (ps := ps) n ks ms (fun {α} (us mv ws : List α) => pick p (us ++ (ws ++ mv))) hk hms (fun r1 r2 r3 => vals_pick (r1.append (r3.append r2)) p) h
  exact ⟨mv, q⟩
end
section
variable {es : List Expr} {e : Expr} {kws : List Keyword} {A Ak : EV → M (List D)} {x : Str} {p : Pos} {k n : Nat} {fa : Addr} {fd : FuncData} {ps ks : List Str} {pl : List Nat} {cs : List V} {cd : List D}
/-- the values of the arguments and of the keywords -/
def gArgs (A Ak : EV → M (List D)) (n m : Nat) : EV → M (List D × List D) := fun ρ => do
  let ds ← A ρ
  let es ← Ak ρ
  need (decide (ds.length = n) && decide (es.length = m))
  pure (ds, es)
theorem TAD.bind2 {K : PySem.W.Frag} {G : List D → List D → M D} {m : Nat} {σ : L2.St} {H : Hp} {Q : VK} {R : List V → List V → Hp → Prop} {st : Stx xi} {S : Addr → Prop} {ρ : EV} {mm : SM}
    (cv : Cov K st S H mm) (er : EnvR K st S H σ ρ) (o : Out K st S H ((gArgs A Ak n m ρ >>= fun z => G z.1 z.2) mm) Q (WE W σ))
    (kk : ∀ vs ds zs es m1 H1, Chg (atSt st) H H1 → Cov K st S H1 m1 → RepL K st S H1 vs ds → RepL K st S H1 zs es → vs.length = n → zs.length = m → Out K st S H1 (G ds es m1) Q (WE W σ) → R vs zs H1) : TAD xi K W A σ H fun vs H1 => TAD xi K W Ak σ H1 fun zs H2 => R vs zs H2 := by
  unfold gArgs at o
  simp only [bind_assoc] at o
  refine TAD.bind (G := fun ds ρ => Ak ρ >>= fun es => need (decide (ds.length = n) && decide (es.length = m)) >>= fun _ => pure (ds, es) >>= fun z => G z.1 z.2) cv er o fun vs ds m1 H1 c1 cv1 er1 r1 o1 => ?_
  refine TAD.bind (G := fun es ρ => need (decide (ds.length = n) && decide (es.length = m)) >>= fun _ => pure (ds, es) >>= fun z => G z.1 z.2) cv1 er1 o1 fun zs es m2 H2 c2 cv2 er2 r2 o2 => ?_
  obtain ⟨hn, o3⟩ := out_need (P := fun r => Out K st S H2 r Q (WE W σ)) (fun z => z) o2
  obtain ⟨h1, h2⟩ := Bool.and_eq_true_iff.mp hn
  have h1 := of_decide_eq_true h1
  have h2 := of_decide_eq_true h2
  exact kk vs ds zs es m2 H2 (c1.trans c2) cv2 (r1.mono c2 cv1.sub fun _ z => z) r2 (r1.length.trans h1) (r2.length.trans h2) o3
def gCallK (g : List D → M D) (A Ak : EV → M (List D)) (n m : Nat) (pl : List Nat) (cd : List D) : EV → M D := fun ρ => gArgs A Ak n m ρ >>= fun z => g (pick pl (z.1 ++ (z.2 ++ cd)))
/-- C(e, .., k = v, ..) -/
theorem se_make {c : Str} {g : List D → M (List (Str × D))} (Mk' : Mk X.K (He.ga X.K c) fa) (Fn : FnOk X.prog X.w X.K X.mg X.base (L2N.CX X.prog X.w) k fa fd ps (spIni X.K c g)) (hr : Room (k + 1) X.A) (hg : Gl X x) (hm : X.mg x = some (.ref (He.ga X.K c)))
    (hb : KB X.K fd ps (n + 1) ks (0 :: pl.map (· + 1)) cs) (hcs : Paired CV cs cd) (ha : SA X W (e :: es) A) (hkw : SK X W kws Ak)
    (hall : (backToKw pos (keywordEach kws X.env)).all (·.1.isSome) = true := by rfl) (hks : (backToKw pos (keywordEach kws X.env)).filterMap (·.1) = ks := by rfl) (hdb : (x == ("__debug__" : Str)) = false := by decide)
    (he : starEach (e :: es) X.env = (false, eval e X.env) :: starEach es X.env := by rfl) (hpl : ((backTo pos (starEach (e :: es) X.env)).any (·.1) || (backToKw pos (keywordEach kws X.env)).any (·.1.isNone)) = false := by rfl) :
    SE X W (.Call (.Name x p) (e :: es) kws pos) (gCallK (fun ds => noErr (do let fs ← g ds; pure (.obj c fs))) A Ak n ks.length pl cd) := by
  obtain ⟨us0, hb'⟩ := hb.ex
  refine .imp (pe_makeK Mk' Fn hr hg hm hb' (passL (X := X)) ha.pa hkw.pk hall hks hdb he hpl) fun σ H Q h => ?_
  rw [xi_room hr] at h ⊢
  obtain ⟨st, S, ρ, m, cv, er, o⟩ := h
  refine TAD.bind2 (G := fun ds es => noErr (do let fs ← g (pick pl (ds ++ (es ++ cd))); pure (.obj c fs))) cv er o fun vs ds zs es' m1 H1 c1 cv1 r1 r2 l1 l2 o1 => ⟨l1, l2, fun y dx n1 n2 ne => ?_⟩
  have ep : pick (0 :: pl.map (· + 1)) (V.ref y :: vs ++ (zs ++ cs)) = V.ref y :: pick pl (vs ++ (zs ++ cs)) := by
    unfold pick
    simp [List.filterMap_map, Function.comp_def]
  refine ⟨st, S, pick pl (ds ++ (es' ++ cd)), m1, H1, y, dx, pick pl (vs ++ (zs ++ cs)), ep, n1, n2, ne, rfl, cv1, (r1.append (r2.append (cvs_rep hcs))).pick pl, ?_⟩
  rcases noErr_cases (g (pick pl (ds ++ (es' ++ cd))) >>= fun fs => pure (D.obj c fs)) m1 with ⟨d, m2, h1, h2⟩ | h2
  · rw [h2] at o1
    rw [bind_run] at h1
    cases q : g (pick pl (ds ++ (es' ++ cd))) m1 with
    | bad => rw [q] at h1; cases h1
    | err cn fs m3 => rw [q] at h1; cases h1
    | ok fs m3 =>
      rw [q] at h1
      cases h1
      intro H' dy fv c' cv' hy rf
      exact ⟨rfl, o1 _ H' c' cv' (.obj (cv1.out n1) hy rf)⟩
  · rw [h2] at o1; exact o1.elim
end
end
end Den
set_option Elab.async false
set_option linter.all false
set_option maxRecDepth 100000
set_option maxHeartbeats 4000000
namespace Den
open PySem PySem.Spec PyProof.Rows L2
def OutO (K : PySem.W.Frag) (st : Stx xi) (S : Addr → Prop) (H : Hp) (r : R (Option Int)) (Q : Option Int → Hp → Prop) (E : XK) : Prop := match r with
  | .ok b m' => ∀ H', Chg (atSt st) H H' → Cov K st S H' m' → Q b H'
  | .err c fs m' => ∀ dd fv H', Chg (atSt st) H H' → Cov K st S H' m' → H' dd = some (.xd fv) → H dd = none → RepF K st S H' fv fs → E (.ref (He.ga K c)) (some dd) H'
  | .bad => False
def TOD (xi : XI) (K : PySem.W.Frag) (W : WX) (P : EV → M (Option Int)) : TO := fun σ H Q => ∃ (st : Stx xi) (S : Addr → Prop) (ρ : EV) (m : SM), Cov K st S H m ∧ EnvR K st S H σ ρ ∧ OutO K st S H (P ρ m) Q (WE W σ)
structure SO (X : Cx) (W : WX) (e : Option Expr) (P : EV → M (Option Int)) : Prop where
  po : PO X e (TOD X.xi X.K W P)
theorem PO.imp {X : Cx} {e : Option Expr} {t t' : TO} (h : PO X e t) (i : ∀ σ H Q, t' σ H Q → t σ H Q) : PO X e t' := ⟨fun pins s σ H Q I q => h.run pins s σ H Q I (i σ H Q q)⟩
def asI : D → M (Option Int)
  | .int i => pure (some i)
  | _ => M.bad
section
variable {X : Cx} {W : WX} {pos p2 : Pos}
theorem so_none : SO X W none (fun _ => pure none) := ⟨PO.imp po_none fun σ H Q ⟨st, S, ρ, m, cv, er, o⟩ => o H (Chg.refl H) cv⟩
theorem so_some {e : Expr} {F : EV → M D} (h : SE X W e F) : SO X W (some e) (fun ρ => do let x ← F ρ; asI x) := by
  refine ⟨PO.imp (po_some h.pe) fun σ H Q ⟨st, S, ρ, m, cv, er, o⟩ => ?_⟩
  replace o : OutO X.K st S H ((F ρ >>= fun x => asI x) m) Q (WE W σ) := o
  refine ⟨st, S, ρ, m, cv, er, ?_⟩
  rw [bind_run] at o
  cases q : F ρ m with
  | bad => rw [q] at o; exact o.elim
  | err c fs m1 => rw [q] at o; exact o
  | ok d m1 =>
    rw [q] at o
    intro v H1 c1 cv1 r1
    cases r1 with
    | int i => exact ⟨i, rfl, o H1 c1 cv1⟩
    | _ => exact o.elim
def cutD {α : Type} (xs : List α) (lo hi : Option Int) : List α := (xs.drop (HT.sIx xs.length 0 lo)).take (HT.sIx xs.length xs.length hi - HT.sIx xs.length 0 lo)
theorem rep_cut {K : PySem.W.Frag} {st : Stx xi} {S : Addr → Prop} {H : Hp} {vs : List V} {ds : List D} (r : RepL K st S H vs ds) (lo hi : Option Int) : RepL K st S H (cutV vs lo hi) (cutD ds lo hi) := by
  unfold cutV cutD
  rw [r.length]
  exact (r.drop _).take _
def dCut : D → Option Int → Option Int → M (List D)
  | .lst xs, lo, hi => pure (cutD xs lo hi)
  | .scr ns, lo, hi => pure ((cutD ns lo hi).map .int)
  | _, _, _ => M.bad
def gSlice (F : EV → M D) (P P' : EV → M (Option Int)) : EV → M (List D) := fun ρ => do let x ← F ρ; let lo ← P ρ; let hi ← P' ρ; dCut x lo hi
theorem cut_map (ns : List Int) (lo hi : Option Int) : cutV (ns.map V.int) lo hi = (cutD ns lo hi).map V.int := by
  unfold cutV cutD
  rw [List.length_map, List.map_take, List.map_drop]
theorem repL_ints {K : PySem.W.Frag} {st : Stx xi} {S : Addr → Prop} {H : Hp} : ∀ ns : List Int, RepL K st S H (ns.map V.int) (ns.map D.int)
  | [] => .nil
  | n :: ns => .cons (.int n) (repL_ints ns)
theorem TO.bindF {K : PySem.W.Frag} {P : EV → M (Option Int)} {G : Option Int → EV → M (List D)} {σ : L2.St} {H : Hp} {Q : VK} {R : Option Int → Hp → Prop} {st : Stx xi} {S : Addr → Prop} {ρ : EV} {m : SM}
    (cv : Cov K st S H m) (er : EnvR K st S H σ ρ) (o : OutF K st S H ((P ρ >>= fun d => G d ρ) m) Q (WE W σ))
    (k : ∀ b m1 H1, Chg (atSt st) H H1 → Cov K st S H1 m1 → EnvR K st S H1 σ ρ → OutF K st S H1 (G b ρ m1) Q (WE W σ) → R b H1) : TOD xi K W P σ H R := by
  refine ⟨st, S, ρ, m, cv, er, ?_⟩
  rw [bind_run] at o
  cases e : P ρ m with
  | ok b m1 =>
    rw [e] at o
    exact fun H1 c cv1 => k b m1 H1 c cv1 (er.mono c cv.sub) (OutF.chg o c)
  | err c fs m1 => rw [e] at o; exact o
  | bad => rw [e] at o; exact o.elim
theorem sf_slice {e : Expr} {lo hi : Option Expr} {F : EV → M D} {P P' : EV → M (Option Int)} (h : SE X W e F) (hl : SO X W lo P) (hh : SO X W hi P') : SF X W (.Subscript e (.Slice lo hi none p2) pos) (gSlice F P P') := by
  refine .imp (pe_slice sl_list h.pe hl.po hh.po) fun σ H Q ⟨st, S, ρ, m, cv, er, o⟩ => ?_
  refine TE.bindF (G := fun x ρ => do let lo ← P ρ; let hi ← P' ρ; dCut x lo hi) cv er o fun v d m1 H1 c1 cv1 er1 r1 o1 => ?_
  refine TO.bindF (G := fun lo ρ => do let hi ← P' ρ; dCut d lo hi) cv1 er1 o1 fun l m2 H2 c2 cv2 er2 o2 => ?_
  refine TO.bindF (G := fun hi _ => dCut d l hi) cv2 er2 o2 fun u m3 H3 c3 cv3 er3 o3 => ?_
  have r3 := (r1.mono c2 cv1.sub fun _ z => z).mono c3 cv2.sub fun _ z => z
  cases r3 with
  | lst na ha rr => exact ⟨_, _, rfl, SqL.of ha, out_new cv3 o3 (rep_cut rr l u)⟩
  | scr hs =>
    refine ⟨_, _, rfl, hs.sq, ?_⟩
    rw [cut_map]
    exact out_new cv3 o3 (repL_ints _)
  | _ => exact o3.elim
def D.ints : List D → Option (List Int)
  | [] => some []
  | .int n :: ds => (D.ints ds).map (n :: ·)
  | _ => none
theorem rep_ints {K : PySem.W.Frag} {st : Stx xi} {S : Addr → Prop} {H : Hp} : ∀ {vs : List V} {ds : List D} {ns : List Int}, RepL K st S H vs ds → D.ints ds = some ns → vs = ns.map V.int
  | _, _, _, .nil, h => by cases h; rfl
  | _, _, ns, .cons (d := d) r t, h => by
    cases d <;> try (cases h; done)
    obtain ⟨cs, h1, h2⟩ := Option.map_eq_some_iff.mp (show (D.ints _).map _ = some ns from h)
    subst h2
    cases r
    rw [rep_ints t h1]; rfl
theorem flat_ints (ns : List Int) : (ns.map V.int).all flatV = true := by
  rw [List.all_map]
  exact List.all_eq_true.mpr fun _ _ => rfl
theorem mt_tupIndexI : MtR X "tuple.index" (fun x xs H Q => ∃ p, ∃ ys : List Int, ∃ z j, x = .ref p ∧ xs = [.int z] ∧ SqT X.K H p (ys.map V.int) ∧ ys[j]? = some z ∧ (∀ m, m < j → ys[m]? ≠ some z) ∧ Q (.int (j : Nat)) H) := by
  intro pins s σ H x xs v us Q I rx rs ⟨p, ys, z, j, ex, exs, hq, hy, hno, q⟩
  subst ex exs
  obtain rfl : v = Value.ref p := rx
  obtain ⟨u, rfl, t, rfl⟩ := vals1 rs
  obtain ⟨its, rv, ⟨⟨cls, dd, dt, sl⟩, ho, hc, n, hd⟩, hz⟩ := I.tuple hq
  obtain rfl : cls = .type "tuple" := hc
  obtain rfl : dt = .seq its.toArray n := hd
  have lenE : its.toArray.size = ys.length := by rw [List.size_toArray, ← rv.length, List.length_map]
  have jlt : j < its.toArray.size := by rw [lenE]; exact (List.getElem?_eq_some_iff.mp hy).1
  have atM : ∀ (m : Nat) (hm : m < its.toArray.size), ∃ y t', ys[m]? = some y ∧ its.toArray[m] = Value.int y t' := fun m hm => by
    have hm' : m < ys.length := by omega
    obtain ⟨w, hw, t', hw'⟩ := rv.get (i := m) (x := .int ys[m]) (by simp [hm'])
    refine ⟨ys[m], t', List.getElem?_eq_getElem hm', ?_⟩
    obtain ⟨g1, g2⟩ := List.getElem?_eq_some_iff.mp hw
    rw [← hw', ← g2]
    simp
  refine call_meets PySem.F.slot_tuple_index ⟨_, ho, rfl⟩ PySem.F.entry_tuple_index (PySem.F.args_tuple_index_2 _ _) (TI.tuple_indexAt p its.toArray n dd sl (.int z t) (eqU (.int z)) j jlt ?_ ?_)
    ⟨ho, fun w hw => mem_eqAt (x := .int z) ⟨t, rfl⟩ rfl rv (flat_ints ys) w (by simpa using hw), ⟨.int (j : Nat), H, I.tok _, ⟨_, rfl⟩, q⟩⟩
  · obtain ⟨y, t', h1, h2⟩ := atM j jlt
    rw [hy] at h1
    obtain rfl : z = y := Option.some.inj h1
    rw [h2]
    show eqU (.int z) (Value.int z t') = true
    rw [eqU_of (y := .int z) ⟨t', rfl⟩ rfl]
    simp [eqV]
  · intro m hm hlt
    obtain ⟨y, t', h1, h2⟩ := atM m hm
    rw [h2]
    show eqU (.int z) (Value.int y t') = false
    rw [eqU_of (y := .int y) ⟨t', rfl⟩ rfl]
    have : y ≠ z := fun e => hno m hlt (by rw [h1, e])
    simp [eqV, this]
def dIndexI : D → D → M D
  | .tup xs, .int z => ofO ((D.ints xs).bind fun ns => (ns.findIdx? (· == z)).map fun j => .int (j : Nat))
  | _, _ => M.bad
theorem tupN_is {pins : List (Addr × Obj)} {σ : L2.St} {H : Hp} {s : Shared} {p : Addr} {vs : List V} (I : Inv X pins σ H s) (h : TupN X.K H p vs) : s.TypeIs (.ref p) "tuple" ∧ ∀ a, (Value.ref p) = .ref a → ∃ ob, s.heap.get? a = some ob ∧ ob.dict = none := by
  rcases h with ⟨ob, h, d⟩ | ⟨o, its, n, hk, hc, hd, _⟩
  · obtain ⟨g, _, its, _, o, g2, hc, _⟩ := I.hok p _ h
    rw [g] at g2; cases g2
    exact ⟨⟨ob, g, hc⟩, fun a e => by cases e; exact ⟨ob, g, d⟩⟩
  · exact ⟨⟨o, I.kIn p o hk, hc⟩, fun a e => by cases e; exact ⟨o, I.kIn _ o hk, hd⟩⟩
def isTup : D → Bool
  | .tup _ => true
  | _ => false
def dIndexL (x : D) : List D → M D
  | [y] => dIndexI x y
  | _ => M.bad
def gIndex (F : EV → M D) (A : EV → M (List D)) : EV → M D := fun ρ => do let x ← F ρ; need (isTup x); let ys ← A ρ; dIndexL x ys
def AfterIndex (K : PySem.W.Frag) (x : V) (Q : VK) (us : List V) (H : Hp) : Prop := ∃ p, ∃ ys : List Int, ∃ z j, x = .ref p ∧ us = [.int z] ∧ SqT K H p (ys.map V.int) ∧ ys[j]? = some z ∧ (∀ m, m < j → ys[m]? ≠ some z) ∧ Q (.int (j : Nat)) H
theorem se_index {e a : Expr} {apos : Pos} {Fe : EV → M D} {A : EV → M (List D)} (he : SE X W e Fe) (ha : SA X W [a] A)
    (hbase : attributeBase e "index" X.env (eval e X.env) = eval e X.env := by rfl)
    (hfew : ((backTo pos (starEach [a] X.env)).all (fun x => !x.1) && (backToKw pos (keywordEach [] X.env)).all (fun x => x.1.isSome)
      && decide ([a].length + ([] : List Keyword).length + (if ([] : List Keyword).isEmpty then 0 else 1) < 30)) = true := by rfl)
    (hline : (apos.endLine == pos.line) = true := by rfl) (hs : starEach [a] X.env = (false, eval a X.env) :: starEach [] X.env := by rfl) (hplain : (backTo pos (starEach [] X.env)).any (·.1) = false := by rfl) :
    SE X W (.Call (.Attribute e "index" apos) [a] [] pos) (gIndex Fe A) := by
  refine ⟨⟨fun pins s σ H Q I ⟨st, S, ρ, m, cv, er, o⟩ => ?_⟩⟩
  have key : TE X.xi X.K W Fe σ H (fun x H1 => (∃ p vs, x = .ref p ∧ TupN X.K H1 p vs) ∧ TAD X.xi X.K W A σ H1 (AfterIndex X.K x Q)) := by
    refine TE.bind (G := fun x ρ => do need (isTup x); let ys ← A ρ; dIndexL x ys) cv er o fun v d m1 H1 c1 cv1 er1 r1 o1 => ?_
    obtain ⟨hc, o1b⟩ := out_need (P := fun r => Out X.K st S H1 r Q (WE W σ)) (fun z => z) o1
    cases r1 with
    | tup hn rr =>
      refine ⟨⟨_, _, rfl, hn⟩, ?_⟩
      refine TAD.bind (G := fun ys _ => dIndexL _ ys) cv1 er1 o1b fun us ys m2 H2 c2 cv2 er2 r2 o2 => ?_
      match ys, r2, o2 with
      | [.int z], r2, o2 =>
        obtain ⟨u, e1, r3⟩ := repL1 r2
        subst e1
        cases r3
        obtain ⟨d2, h1, o3⟩ := out_ofO o2
        obtain ⟨ns, h2, h3⟩ := Option.bind_eq_some_iff.mp h1
        obtain ⟨j, h4, h5⟩ := Option.map_eq_some_iff.mp h3
        subst h5
        have rr2 := rr.mono c2 cv1.sub fun _ z => z
        have ev := rep_ints rr2 h2
        subst ev
        obtain ⟨hj, h6, h7⟩ := List.findIdx?_eq_some_iff_getElem.mp h4
        refine ⟨_, ns, z, j, rfl, rfl, (c2.tupN hn).sq, ?_, fun k hk => ?_, out_pure cv2 o3 (.int _)⟩
        · rw [List.getElem?_eq_getElem hj]
          simpa using h6
        · have h8 := h7 k hk
          rw [List.getElem?_eq_getElem (Nat.lt_trans hk hj)]
          simpa using h8
      | [.non], _, o2 => exact o2.elim
      | [.bl _], _, o2 => exact o2.elim
      | [.str _], _, o2 => exact o2.elim
      | [.tup _], _, o2 => exact o2.elim
      | [.lst _], _, o2 => exact o2.elim
      | [.obj _ _], _, o2 => exact o2.elim
      | [.sto], _, o2 => exact o2.elim
      | [.scr _], _, o2 => exact o2.elim
      | [], _, o2 => exact o2.elim
      | _ :: _ :: _, _, o2 => exact o2.elim
    | _ => cases hc
  refine wpAny_Call_method_late hbase hfew hline rfl (thn (he.pe.run pins s σ H _ I key) fun v s1 ⟨x, H1, I1, r1, ⟨p, vs, ex, hn⟩, q1⟩ => ?_)
  subst ex
  obtain rfl : v = Value.ref p := r1
  obtain ⟨h1, h2⟩ := tupN_is I1 hn
  refine ⟨"tuple", "tuple.index", PySem.F.plainAttrs_tuple, PySem.F.slot_tuple_index, PySem.F.type_tuple_index, h1, h2, ?_⟩
  have hA := ha.pa.run pos pins s1 σ H1 _ I1 q1
  rw [hs] at hA ⊢
  refine Calls.callWith_builtin (by show (false || (backTo pos (starEach [] X.env)).any (·.1)) = false; rw [hplain]; rfl) (Calls.evalArgs_plain ?_)
  exact thn hA fun us s2 ⟨vs2, H2, I2, r2, q2⟩ => mt_tupIndexI pins s2 σ H2 (.ref p) vs2 (.ref p) us Q I2 (relRef0 p) r2 q2
end
end Den
set_option Elab.async false
set_option linter.all false
set_option maxRecDepth 100000
set_option maxHeartbeats 4000000
namespace Den
open PySem PySem.Spec PyProof.Rows L2 RZ
def enumD (xs : List D) : List D := xs.zipIdx.map fun p => .tup [.int (p.2 : Nat), p.1]
def zipD (xs ys : List D) : List D := List.zipWith (fun a b => D.tup [a, b]) xs ys
theorem enumD_length (xs : List D) : (enumD xs).length = xs.length := by simp [enumD]
theorem enumD_get {xs : List D} {i : Nat} {d : D} (h : xs[i]? = some d) : (enumD xs)[i]? = some (.tup [.int (i : Nat), d]) := by
  simp [enumD, List.getElem?_zipIdx, h]
theorem zipD_get {xs ys : List D} {i : Nat} {d e : D} (h : xs[i]? = some d) (h2 : ys[i]? = some e) : (zipD xs ys)[i]? = some (.tup [d, e]) := by
  simp [zipD, List.getElem?_zipWith, h, h2]
theorem zipD_length (xs ys : List D) : (zipD xs ys).length = min xs.length ys.length := by simp [zipD]
section
variable {K : PySem.W.Frag} {st : Stx xi}
theorem pair_new {S : Addr → Prop} {H : Hp} {T : Addr} {x y : V} {d e : D} (n : H T = none) (rx : Rep K st S H x d) (ry : Rep K st S H y e) :
    RepW true K st S (upd H T (.tup [x, y])) (.ref T) (.tup [d, e]) :=
  ⟨T, x, y, d, e, rfl, rfl, .inl (.inl upd_same), rx.mono (B := noB) (Chg.new n) (fun _ z => z.elim) fun _ z => z, ry.mono (B := noB) (Chg.new n) (fun _ z => z.elim) fun _ z => z⟩
theorem walkD_enum {a : Addr} {ds : List D} : WalkD true K st (Ite K a) (enumD ds) [.ref a] [.lst ds] where
  goes := fun S H i hi r => by
    obtain ⟨v, e, rv⟩ := repL1 r
    cases e
    cases rv with
    | lst hn hs rr =>
      rw [enumD_length] at hi
      obtain ⟨v, h1, h2⟩ := rr.get (i := i) (d := ds[i]) (by simp [hi])
      exact ⟨_, v, SqL.of hs, h1⟩
  stops := fun S H r => by
    obtain ⟨v, e, rv⟩ := repL1 r
    cases e
    cases rv with
    | lst hn hs rr => exact ⟨_, SqL.of hs, by rw [rr.length, enumD_length]; exact Nat.le_refl _⟩
  yields := fun S H i x H' hi r y => by
    obtain ⟨v, e, rv⟩ := repL1 r
    cases e
    cases rv with
    | lst hn hs rr =>
      obtain ⟨T, u, e1, e2, e3, e4⟩ := y
      subst e1 e3
      obtain ⟨d, h1, h2⟩ := rr.getV (e4 _ (SqL.of hs))
      exact ⟨_, enumD_get h1, Chg.new e2, pair_new e2 (.int _) h2⟩
end
section
variable {X : Cx} {W : WX} {pos p : Pos}
def dEnum : List D → M (List D)
  | [.lst xs] => pure (enumD xs)
  | _ => M.bad
theorem dEnum_or (ds : List D) : (∃ xs, ds = [.lst xs] ∧ dEnum ds = pure (enumD xs)) ∨ dEnum ds = M.bad := by
  match ds with
  | [] => exact .inr rfl
  | [d] => cases d <;> first | exact .inl ⟨_, rfl, rfl⟩ | exact .inr rfl
  | d :: _ :: _ => cases d <;> exact .inr rfl
theorem si_enum {e : Expr} {elts : List Expr} {kk : Nat} {tpos : Pos} {A : EV → M (List D)} (hg : Gl X "enumerate") (hm : X.mg "enumerate" = none) (ha : SA X W [e] A) (hs : starEach [e] X.env = [(false, eval e X.env)] := by rfl) :
    SI true X W (.Tuple elts kk tpos) (.Call (.Name "enumerate" p) [e] [] pos) (fun ρ => do let ds ← A ρ; dEnum ds) := by
  refine ⟨PI.imp (pi_enum hg hm ha.pa hs) fun σ H Q ⟨st, S, ρ, m, cv, er, o⟩ => ?_⟩
  refine TAD.bindI (G := dEnum) cv er o fun vs ds m1 H1 c1 cv1 er1 r1 o1 => ?_
  rcases dEnum_or ds with ⟨xs, e1, e2⟩ | e2
  · rw [e2] at o1
    subst e1
    obtain ⟨v, ev, rv⟩ := repL1 r1
    subst ev
    have r0 := rv
    cases rv with
    | lst hn hs rr => exact ⟨_, _, rfl, SqL.of hs, o1 _ _ _ H1 (Chg.refl _) cv1 (.cons r0 .nil) walkD_enum⟩
  · rw [e2] at o1; exact o1.elim
end
end Den
set_option Elab.async false
set_option linter.all false
set_option maxRecDepth 100000
set_option maxHeartbeats 4000000
namespace Den
open PySem PySem.Spec PyProof.Rows L2
section
variable {X : Cx} {W : WX} {s : Stmt}
/-- store[k] = e -/
def setSt (d j : D) (ρ : SV) : M Fl := match d, j with
  | .int z, .int k => fun m => match ixN (m.xs.length + 1) k with
    | some (n + 1) => .ok (.nx ρ) ⟨m.cs, m.xs.set n z⟩
    | _ => .bad
  | _, _ => M.bad
def isSto (i : Nat) (ρ : SV) : Bool := match ρ[i]? with
  | some (.va .sto) => true
  | _ => false
def gSetS (i : Nat) (F Gj : EV → M D) : SV → M Fl := fun ρ => exB (F (vw [] ρ)) ρ fun d => exB (Gj (vw [] ρ)) ρ fun j => if isSto i ρ = true then setSt d j ρ else M.bad
theorem isSto_of {i : Nat} {ρ : SV} (h : isSto i ρ = true) : ρ[i]? = some (.va .sto) := by
  unfold isSto at h
  cases e : ρ[i]? with
  | none => rw [e] at h; cases h
  | some sl =>
    rw [e] at h
    cases sl with
    | va d => cases d <;> first | rfl | cases h
    | _ => cases h
theorem EnvS.sto {K : PySem.W.Frag} {st : Stx xi} {S : Addr → Prop} {H0 H : Hp} {σ : L2.St} {ρ : SV} {i : Nat} {m : SM} (k : Kept K st S H0 H m) (e : EnvS K st S H0 H σ ρ) (h : isSto i ρ = true) :
    ∃ a c, st.s = some (a, c) ∧ σ[i]? = some (some (.ref a)) ∧ StoAt K S H a c m := by
  obtain ⟨v, g1, g2⟩ := e.va i _ (isSto_of h)
  cases g2 with
  | sto hs => exact ⟨_, _, hs, g1, k.cov.sto _ _ hs⟩
theorem ss_setS {i : Nat} {F Gj : EV → M D} (h : PS X s (tAsg (TE X.xi X.K W F) (gSub (tVar i) (TE X.xi X.K W Gj) rSetL))) (hj : ∀ ρ m, (∃ k, Gj ρ m = .ok (.int k) m) ∨ Gj ρ m = .bad) : SS1 X W s (gSetS i F Gj) := by
  refine ⟨PS.imp h fun Dn σ H ⟨st, S, ρ, m, H0, k, e, o⟩ => ?_⟩
  refine TE.stm k e o fun v d m1 H1 c1 k1 cv1 e1 r1 o1 => ?_
  have hst : isSto i ρ = true := by
    rw [exB_run] at o1
    rcases hj (vw [] ρ) m1 with ⟨kk, q⟩ | q
    · rw [q] at o1
      by_cases hh : isSto i ρ = true
      · exact hh
      · replace o1 : OutS X.K W st S H0 H1 σ ρ ((if isSto i ρ = true then setSt d (.int kk) ρ else M.bad) m1) Dn := o1
        rw [if_neg hh] at o1; exact o1.elim
    · rw [q] at o1; exact o1.elim
  obtain ⟨a, c, hs, hu, sa⟩ := EnvS.sto k1 e1 hst
  refine ⟨.ref a, hu, ?_⟩
  refine TE.stm k1 e1 o1 fun y j m2 H2 c2 k2 cv2 e2 r2 o2 => ?_
  rw [if_pos hst] at o2
  have sa2 := k2.cov.sto a c hs
  cases d <;> try exact o2.elim
  cases j <;> try exact o2.elim
  rename_i z kk
  cases r1
  cases r2
  replace o2 : OutS X.K W st S H0 H2 σ ρ (match ixN (m2.xs.length + 1) kk with
    | some (n + 1) => .ok (.nx ρ) ⟨m2.cs, m2.xs.set n z⟩
    | _ => .bad) Dn := o2
  cases q3 : ixN (m2.xs.length + 1) kk with
  | none => rw [q3] at o2; exact o2.elim
  | some n =>
    cases n with
    | zero => rw [q3] at o2; exact o2.elim
    | succ n =>
      rw [q3] at o2
      have cw : Chg (fun b => b = a) H2 (upd H2 a (.lst ((.ref c :: m2.xs.map V.int).set (n + 1) (.int z)))) := Chg.write sa2.at_ rfl rfl
      have cs : Chg (atSt st) H2 (upd H2 a (.lst ((.ref c :: m2.xs.map V.int).set (n + 1) (.int z)))) := cw.mono fun b e => ⟨c, by rw [e]; exact hs⟩
      have cv3 : Cov X.K st S (upd H2 a (.lst ((.ref c :: m2.xs.map V.int).set (n + 1) (.int z)))) ⟨m2.cs, m2.xs.set n z⟩ := by
        refine ⟨fun b hb => cs.there (k2.cov.dom b hb), fun a' c' e' => ?_⟩
        rw [hs] at e'; cases e'
        refine ⟨sa2.sa, ?_, cs.fz sa2.cs⟩
        rw [upd_same]
        simp [List.map_set]
      exact ⟨a, _, kk, n + 1, rfl, rfl, sa2.at_, by simpa using q3, o2 σ _ (k2.after cs cv3) (e2.after k2 cs) (Pers.after k2 cs)⟩
theorem RepL.eraseIdx {K : PySem.W.Frag} {st : Stx xi} {S : Addr → Prop} {H : Hp} : ∀ {vs : List V} {ds : List D} (n : Nat), RepL K st S H vs ds → RepL K st S H (vs.eraseIdx n) (ds.eraseIdx n)
  | _, _, _, .nil => .nil
  | _, _, 0, .cons r t => t
  | _, _, n + 1, .cons r t => .cons r (RepL.eraseIdx n t)
/-- x.append(y.pop(e)), x and y own lists -/
def movD (io il : Nat) (ρ : SV) : D → M Fl
  | .int j => match ρ[io]?, ρ[il]? with
    | some (.ow xs), some (.ow ys) => match seqIndex? j ys.length with
      | some k => match ys[k]? with
        | some y => if -(2 ^ 63) ≤ j ∧ j < 2 ^ 63 ∧ io ≠ il then do
            lim (xs.length + 1)
            pure (.nx ((ρ.set il (.ow (ys.eraseIdx k))).set io (.ow (xs ++ [y])))) else M.bad
        | none => M.bad
      | none => M.bad
    | _, _ => M.bad
  | _ => M.bad
def isOw (i : Nat) (ρ : SV) : Bool := match ρ[i]? with
  | some (.ow _) => true
  | _ => false
def gMov (io il : Nat) (F : EV → M D) : SV → M Fl := fun ρ => if (isOw io ρ && isOw il ρ) = true then exB (F (vw (allM ρ) ρ)) ρ fun d => movD io il ρ d else M.bad
theorem isOw_of {i : Nat} {ρ : SV} (h : isOw i ρ = true) : ∃ xs, ρ[i]? = some (.ow xs) := by
  unfold isOw at h
  cases e : ρ[i]? with
  | none => rw [e] at h; cases h
  | some sl =>
    rw [e] at h
    cases sl with
    | ow xs => exact ⟨xs, rfl⟩
    | _ => cases h
theorem ss_mov {io il : Nat} {F : EV → M D} (h : PS X s (tDrop (tBM X.K "list" rAppend (tVar io) (tCons (tBM X.K "list" rPopAt (tVar il) (tCons (TE X.xi X.K W F) tNil)) tNil)))) : SS1 X W s (gMov io il F) := by
  refine ⟨PS.imp h fun Dn σ H ⟨st, S, ρ, m, H0, k, e, o⟩ => ?_⟩
  unfold gMov at o
  by_cases hc : (isOw io ρ && isOw il ρ) = true
  case neg => rw [if_neg hc] at o; exact o.elim
  rw [if_pos hc] at o
  obtain ⟨h1, h2⟩ := (Bool.and_eq_true _ _).mp hc
  obtain ⟨xs, q1⟩ := isOw_of h1
  obtain ⟨ys, q2⟩ := isOw_of h2
  obtain ⟨a, vs, a1, a2, a3, a4⟩ := e.ow io xs q1
  obtain ⟨b, ws, b1, b2, b3, b4⟩ := e.ow il ys q2
  refine ⟨.ref a, a1, .inl ⟨rfl, _, SqL.of a2⟩, .ref b, b1, .inl ⟨rfl, _, SqL.of b2⟩, ?_⟩
  refine TE.stm k e o fun v d m1 H1 c1 k1 cv1 e1 r1 o1 => ?_
  cases d <;> try exact o1.elim
  rename_i j
  cases r1
  unfold movD at o1
  rw [q1, q2] at o1
  simp only at o1
  cases q3 : seqIndex? j ys.length with
  | none => rw [q3] at o1; exact o1.elim
  | some n =>
    rw [q3] at o1
    simp only at o1
    cases q4 : ys[n]? with
    | none => rw [q4] at o1; exact o1.elim
    | some y =>
      rw [q4] at o1
      simp only at o1
      by_cases hh : -(2 ^ 63) ≤ j ∧ j < 2 ^ 63 ∧ io ≠ il
      case neg => rw [if_neg hh] at o1; exact o1.elim
      rw [if_pos hh] at o1
      obtain ⟨hz, o3⟩ := out_lim (P := fun r => OutS X.K W st S H0 H1 σ ρ r Dn) (fun z => z) o1
      obtain ⟨a', vs', f1, f2, f3, f4⟩ := e1.ow io xs q1
      obtain ⟨b', ws', g1, g2, g3, g4⟩ := e1.ow il ys q2
      rw [a1] at f1; cases f1
      rw [b1] at g1; cases g1
      obtain ⟨yv, y1, y2⟩ := g4.get q4
      obtain ⟨k2, e2, p2⟩ := EnvS.write k1 e1 q2 b1 g2 (g4.eraseIdx n)
      have q1' : (ρ.set il (.ow (ys.eraseIdx n)))[io]? = some (.ow xs) := by rw [List.getElem?_set_ne (Ne.symm hh.2.2)]; exact q1
      obtain ⟨a'', vs'', i1, i2, i3, i4⟩ := e2.ow io xs q1'
      rw [a1] at i1; cases i1
      obtain ⟨k3, e3, p3⟩ := EnvS.write k2 e2 q1' a1 i2 (i4.append (.cons (p2.rep _ _ y2) .nil))
      exact ⟨b, ws', j, n, yv, rfl, rfl, g2, hh.1, hh.2.1, by rw [g4.length]; exact q3, y1, a, vs'', yv, rfl, rfl, i2, by rw [i4.length]; omega, o3 σ _ k3 e3 (p2.trans p3)⟩
end
end Den
set_option Elab.async false
set_option linter.all false
set_option maxRecDepth 100000
set_option maxHeartbeats 4000000
namespace Den
open PySem PySem.Spec PyProof.Rows L2
def fC (d : D) : EV → M D := fun _ => pure d
def f2 (g : D → D → M D) (F G : EV → M D) : EV → M D := fun ρ => do let x ← F ρ; let y ← G ρ; g x y
def f1 (g : D → M D) (F : EV → M D) : EV → M D := fun ρ => do let x ← F ρ; g x
def fL (g : List D → M D) (A : EV → M (List D)) : EV → M D := fun ρ => do let ds ← A ρ; g ds
def fTup (A : EV → M (List D)) : EV → M D := fun ρ => do let ds ← A ρ; lim ds.length; pure (.tup ds)
def lDis (A : EV → M (List D)) : EV → M (List D) := fun ρ => do let ds ← A ρ; lim ds.length; pure ds
def fNew (L : EV → M (List D)) : EV → M D := fun ρ => do let xs ← L ρ; pure (.lst xs)
def aN : EV → M (List D) := fun _ => pure []
def aC (F : EV → M D) (A : EV → M (List D)) : EV → M (List D) := fun ρ => do let d ← F ρ; let ds ← A ρ; pure (d :: ds)
def tT (F : EV → M D) : EV → M Bool := fun ρ => do let x ← F ρ; dTru x
def t2 (g : D → D → M D) (F G : EV → M D) : EV → M Bool := fun ρ => do let x ← F ρ; let y ← G ρ; let z ← g x y; asB z
def tYes : EV → M Bool := fun _ => pure true
def tNo (C : EV → M Bool) : EV → M Bool := fun ρ => do let b ← C ρ; pure (!b)
def tAnd (C C' : EV → M Bool) : EV → M Bool := fun ρ => do let x ← C ρ; if x = true then C' ρ else pure false
def tOr (C C' : EV → M Bool) : EV → M Bool := fun ρ => do let x ← C ρ; if x = true then pure true else C' ρ
def fAnd (F F' : EV → M D) : EV → M D := fun ρ => do let x ← F ρ; let b ← dTru x; if b = true then F' ρ else pure x
def fOr (F F' : EV → M D) : EV → M D := fun ρ => do let x ← F ρ; let b ← dTru x; if b = true then pure x else F' ρ
def fNot (F : EV → M D) : EV → M D := fun ρ => do let x ← F ρ; let b ← dTru x; pure (.bl (!b))
def fIf (C : EV → M Bool) (F F' : EV → M D) : EV → M D := fun ρ => do let x ← C ρ; if x = true then F ρ else F' ρ
def fCh (g g' : D → D → M D) (F G H : EV → M D) : EV → M D := fun ρ => do let x ← F ρ; let y ← G ρ; let z ← g x y; let k ← asB z; if k = true then (do let u ← H ρ; g' y u) else pure (.bl false)
def iSeq (F : EV → M D) : EV → M (List D) := fun ρ => do let x ← F ρ; dIts x
def iRan (n : Nat) (A : EV → M (List D)) : EV → M (List D) := fun ρ => do let ds ← A ρ; need (decide (ds.length = n)); dRange ds
def iG (g : List D → M (List D)) (A : EV → M (List D)) : EV → M (List D) := fun ρ => do let ds ← A ρ; g ds
def oNo : EV → M (Option Int) := fun _ => pure none
def oYes (F : EV → M D) : EV → M (Option Int) := fun ρ => do let x ← F ρ; asI x
/-- a def of the law, by its function -/
structure Cal (P : Program) (w : World) (K : PySem.W.Frag) (mg : Str → Option Value) (base : Heap) (k : Nat) (x : Str) (params : Arguments) (body : List Stmt) (scope : Scope) (ps : List Str) (g : List D → M D) : Prop where
  ex : ∃ (f : Addr) (fd : FuncData), mg x = some (.ref f) ∧ FunD K x x params body scope [] [] f fd ∧ Binds K fd ps [] ∧ FnOk P w K mg base (L2N.CX P w) k f fd ps (spOf K g)
theorem bt_len : bootBuiltins "len" = some (.builtin "len") := by decide +kernel
theorem bt_min : bootBuiltins "min" = some (.builtin "min") := by decide +kernel
theorem bt_all : bootBuiltins "all" = some (.builtin "all") := by decide +kernel
theorem bt_any : bootBuiltins "any" = some (.builtin "any") := by decide +kernel
theorem bt_int : bootBuiltins "int" = some (.type "int") := by decide +kernel
theorem bt_str : bootBuiltins "str" = some (.type "str") := by decide +kernel
theorem bt_bool : bootBuiltins "bool" = some (.type "bool") := by decide +kernel
theorem bt_list : bootBuiltins "list" = some (.type "list") := by decide +kernel
theorem bt_tuple : bootBuiltins "tuple" = some (.type "tuple") := by decide +kernel
section
variable {X : Cx} {W : WX} {pos p : Pos}
theorem xV (i : Nat) {x : Str} (hN : X.N[i]? = some x := by rfl) (hv : Vis X.env.scope x := by first | exact Or.inl rfl | exact Or.inr (Or.inl rfl) | exact Or.inr (Or.inr rfl)) (hd : (x == ("__debug__" : Str)) = false := by decide) (hcd : (x == ("__classdict__" : Str)) = false := by decide) : SE X W (.Name x pos) (gVar i) := se_var (pv i hN hv hd hcd)
theorem xI {i : Int} {j} : SE X W (.Constant (.int i) j pos) (fC (.int i)) := se_int
theorem xB {b : Bool} {j} : SE X W (.Constant (.bool b) j pos) (fC (.bl b)) := se_bl
theorem xN {j} : SE X W (.Constant .none j pos) (fC .non) := se_non
theorem xS {x : Str} {j} : SE X W (.Constant (.str x) j pos) (fC (.str x)) := se_str
theorem xGI {x : Str} {i : Int} (hm : ∃ t, X.mg x = some (.int i t)) (hg : Gl X x := by rfl) (hd : (x == ("__debug__" : Str)) = false := by decide) : SE X W (.Name x pos) (fC (.int i)) := by
  obtain ⟨t, h⟩ := hm
  exact se_con (v := .int i) (pe_glob hg h ⟨t, rfl⟩ hd) fun _ _ _ => .int i
section
variable {a b c : Expr} {F G J : EV → M D} {C C' : EV → M Bool} {A : EV → M (List D)}
theorem xAdd (ha : SE X W a F) (hb : SE X W b G) : SE X W (.BinOp a .Add b pos) (f2 dAdd F G) := se_op dAdd op_addD vr_add ha hb
theorem xSub (ha : SE X W a F) (hb : SE X W b G) : SE X W (.BinOp a .Sub b pos) (f2 dSub F G) := se_op dSub op_sub vr_sub ha hb
theorem xMul (ha : SE X W a F) (hb : SE X W b G) : SE X W (.BinOp a .Mult b pos) (f2 dMul F G) := se_op dMul (op_rep.or op_mul) vr_mul ha hb
theorem xMod (ha : SE X W a F) (hb : SE X W b G) : SE X W (.BinOp a .Mod b pos) (f2 dMod F G) := se_op dMod op_mod vr_mod ha hb
theorem xDiv (ha : SE X W a F) (hb : SE X W b G) : SE X W (.BinOp a .FloorDiv b pos) (f2 dDiv F G) := se_op dDiv op_fdivW vr_div ha hb
theorem xPow (ha : SE X W a F) (hb : SE X W b G) : SE X W (.BinOp a .Pow b pos) (f2 dPow F G) := se_op dPow op_pow vr_pow ha hb
theorem xLe (ha : SE X W a F) (hb : SE X W b G) : SE X W (.Compare a [.LtE] [b] pos) (f2 dLe F G) := se_cmp dLe op_le vr_le ha hb (nomark _)
theorem xEq {k : Nat} (hr : Room k X.A) (ha : SE X W a F) (hb : SE X W b G) : SE X W (.Compare a [.Eq] [b] pos) (f2 dEq F G) := se_cmp dEq (op_eqD hr.units) vr_eq ha hb (nomark _)
theorem xIs (ha : SE X W a F) (hb : SE X W b G) : SE X W (.Compare a [.Is] [b] pos) (f2 dIsN F G) := se_cmp dIsN op_isD vr_is ha hb (nomark _)
theorem xIn (ha : SE X W a F) (hb : SE X W b G) (hm : behindInMarks .In b = false := by with_unfolding_all rfl) : SE X W (.Compare a [.In] [b] pos) (f2 dIn F G) := se_cmp dIn op_in_seq vr_in ha hb hm
theorem cLt (ha : SE X W a F) (hb : SE X W b G) : ST X W (.Compare a [.Lt] [b] pos) (t2 dLt F G) := st_cmp dLt op_lt vr_lt ha hb (nomark _)
theorem cLe (ha : SE X W a F) (hb : SE X W b G) : ST X W (.Compare a [.LtE] [b] pos) (t2 dLe F G) := st_cmp dLe op_le vr_le ha hb (nomark _)
theorem cGt (ha : SE X W a F) (hb : SE X W b G) : ST X W (.Compare a [.Gt] [b] pos) (t2 dGt F G) := st_cmp dGt op_gt vr_gt ha hb (nomark _)
theorem cGe (ha : SE X W a F) (hb : SE X W b G) : ST X W (.Compare a [.GtE] [b] pos) (t2 dGe F G) := st_cmp dGe op_ge vr_ge ha hb (nomark _)
theorem cEq {k : Nat} (hr : Room k X.A) (ha : SE X W a F) (hb : SE X W b G) : ST X W (.Compare a [.Eq] [b] pos) (t2 dEq F G) := st_cmp dEq (op_eqD hr.units) vr_eq ha hb (nomark _)
theorem cNe {k : Nat} (hr : Room k X.A) (ha : SE X W a F) (hb : SE X W b G) : ST X W (.Compare a [.NotEq] [b] pos) (t2 dNe F G) := st_cmp dNe (op_neD hr.units) vr_ne ha hb (nomark _)
theorem cIs (ha : SE X W a F) (hb : SE X W b G) : ST X W (.Compare a [.Is] [b] pos) (t2 dIsN F G) := st_cmp dIsN op_isD vr_is ha hb (nomark _)
theorem cIn (ha : SE X W a F) (hb : SE X W b G) (hm : behindInMarks .In b = false := by with_unfolding_all rfl) : ST X W (.Compare a [.In] [b] pos) (t2 dIn F G) := st_cmp dIn op_in_seq vr_in ha hb hm
theorem cNotIn (ha : SE X W a F) (hb : SE X W b G) (hm : behindInMarks .NotIn b = false := by with_unfolding_all rfl) : ST X W (.Compare a [.NotIn] [b] pos) (t2 dNotIn F G) := st_cmp dNotIn op_notIn_seq vr_notIn ha hb hm
/-- a < b < c of ints; the first of <, <= -/
theorem xCh {op op' : CmpOp} {r r' : R2} (g g' : D → D → M D) (ho : OpR X (compareOp op) r) (hr : VR2 X.K r g) (ho' : OpR X (compareOp op') r') (hr' : VR2 X.K r' g') (ha : SE X W a F) (hb : SE X W b G) (hc : SE X W c J)
    (hm : lastMarks [op, op'] [b, c] = false := by with_unfolding_all rfl) : SE X W (.Compare a [op, op'] [b, c] pos) (fCh g g' F G J) := se_chain g g' ho hr ho' hr' ha hb hc fun h1 h2 h3 => pe_chain ho ho' h1 h2 h3 hm
theorem xOne {op} (ha : SE X W a F) : SE X W (.BoolOp op [a] pos) F := se_one ha
theorem xAnd {rest : List Expr} (ha : SE X W a F) (hb : SE X W (.BoolOp .And (b :: rest) pos) G) : SE X W (.BoolOp .And (a :: b :: rest) pos) (fAnd F G) := se_and ha hb
theorem xOr {rest : List Expr} (ha : SE X W a F) (hb : SE X W (.BoolOp .Or (b :: rest) pos) G) : SE X W (.BoolOp .Or (a :: b :: rest) pos) (fOr F G) := se_or ha hb
theorem xNot (ha : SE X W a F) : SE X W (.UnaryOp .Not a pos) (fNot F) := se_not ha
theorem xIf (hc : ST X W c C) (ha : SE X W a F) (hb : SE X W b G) : SE X W (.IfExp c a b pos) (fIf C F G) := se_ifx hc ha hb
theorem cTru (ha : SE X W a F) (he : ∀ whole, isTrue a X.env whole = (do let v ← whole; standAt a.pos; holding [v] (truthy v)) := by intro _; rfl) : ST X W a (tT F) := st_tru ha he
theorem cNot (ha : ST X W a C) : ST X W (.UnaryOp .Not a pos) (tNo C) := st_not ha
theorem cAnd1 (ha : ST X W a C) : SW X W (.BoolOp .And [a] pos) C := sw_and1 ha
theorem cOr1 (ha : ST X W a C) : SW X W (.BoolOp .Or [a] pos) C := sw_or1 ha
theorem cAnd {rest : List Expr} (ha : ST X W a C) (hb : SW X W (.BoolOp .And (b :: rest) pos) C') : SW X W (.BoolOp .And (a :: b :: rest) pos) (tAnd C C') := sw_and ha hb
theorem cOr {rest : List Expr} (ha : ST X W a C) (hb : SW X W (.BoolOp .Or (b :: rest) pos) C') : SW X W (.BoolOp .Or (a :: b :: rest) pos) (tOr C C') := sw_or ha hb
theorem xIx (ha : SE X W a F) (hb : SE X W b G) (hs : PlainIx b := by exact fun _ _ => rfl) : SE X W (.Subscript a b pos) (f2 dIx F G) := se_ix dIx ix_seq vr_ix ha hb hs
theorem xTup {es : List Expr} {x1} (h : SA X W es A) : SE X W (.Tuple es x1 pos) (fTup A) := se_tup h
theorem lLst {es : List Expr} (h : SA X W es A) : SF X W (.List es pos) (lDis A) := sf_lst h
theorem xNew {L : EV → M (List D)} (h : SF X W a L) : SE X W a (fNew L) := se_new h
theorem aNil : SA X W [] aN := sa_nil
theorem aCons {es : List Expr} (ha : SE X W a F) (hr : SA X W es A) (hs : starEach (a :: es) X.env = (false, eval a X.env) :: starEach es X.env := by rfl) : SA X W (a :: es) (aC F A) := sa_cons ha hr hs
theorem oNone : SO X W none oNo := so_none
theorem oSome (h : SE X W a F) : SO X W (some a) (oYes F) := so_some h
theorem lSl {lo hi : Option Expr} {p2 : Pos} {P P' : EV → M (Option Int)} (h : SE X W a F) (hl : SO X W lo P) (hh : SO X W hi P') : SF X W (.Subscript a (.Slice lo hi none p2) pos) (gSlice F P P') := sf_slice h hl hh
end
section
variable {e : Expr} {es : List Expr} {A : EV → M (List D)} {x : Str} {k : Nat} {params : Arguments} {body : List Stmt} {scope : Scope} {ps : List Str} {g : List D → M D}
theorem xCall (c : Cal X.prog X.w X.K X.mg X.base k x params body scope ps g) (tk : Takes X W) (hr : Room k X.A) (ha : SA X W (e :: es) A) (hg : Gl X x := by rfl)
    (hdb : (x == ("__debug__" : Str)) = false := by decide) (he : starEach (e :: es) X.env = (false, eval e X.env) :: starEach es X.env := by rfl) (hpl : (backTo pos (starEach es X.env)).any (·.1) = false := by rfl) :
    SE X W (.Call (.Name x p) (e :: es) [] pos) (fL g A) := by
  obtain ⟨f, fd, h1, h2, h3, h4⟩ := c.ex
  exact se_call tk h4 hr hg h1 h2.kp h3 ha hdb he hpl
theorem xLen (hm : X.mg "len" = none) (ha : SA X W (e :: es) A) (hg : Gl X "len" := by rfl) (he : starEach (e :: es) X.env = (false, eval e X.env) :: starEach es X.env := by rfl) (hpl : (backTo pos (starEach es X.env)).any (·.1) = false := by rfl) :
    SE X W (.Call (.Name "len" p) (e :: es) [] pos) (fL dLen A) := se_callB dLen call_len vr_len hg hm bt_len ha (by decide) (by decide) he hpl
theorem xMin (hc : X.calm = true) (hm : X.mg "min" = none) (ha : SA X W (e :: es) A) (hg : Gl X "min" := by rfl) (he : starEach (e :: es) X.env = (false, eval e X.env) :: starEach es X.env := by rfl) (hpl : (backTo pos (starEach es X.env)).any (·.1) = false := by rfl) :
    SE X W (.Call (.Name "min" p) (e :: es) [] pos) (fL dMin A) := se_callB dMin (call_min2 hc) vr_min hg hm bt_min ha (by decide) (by decide) he hpl
theorem xInt (hm : X.mg "int" = none) (ha : SA X W (e :: es) A) (hg : Gl X "int" := by rfl) (he : starEach (e :: es) X.env = (false, eval e X.env) :: starEach es X.env := by rfl) (hpl : (backTo pos (starEach es X.env)).any (·.1) = false := by rfl) :
    SE X W (.Call (.Name "int" p) (e :: es) [] pos) (fL dInt A) := se_callT dInt call_int1 vr_int hg hm bt_int ha (by decide) (by decide) he hpl
theorem xTuple (hm : X.mg "tuple" = none) (ha : SA X W (e :: es) A) (hg : Gl X "tuple" := by rfl) (he : starEach (e :: es) X.env = (false, eval e X.env) :: starEach es X.env := by rfl) (hpl : (backTo pos (starEach es X.env)).any (·.1) = false := by rfl) :
    SE X W (.Call (.Name "tuple" p) (e :: es) [] pos) (fL dTuple A) := se_callT dTuple call_tupN vr_tuple hg hm bt_tuple ha (by decide) (by decide) he hpl
theorem xAll (hc : X.calm = true) (hm : X.mg "all" = none) (ha : SA X W (e :: es) A) (hg : Gl X "all" := by rfl) (he : starEach (e :: es) X.env = (false, eval e X.env) :: starEach es X.env := by rfl) (hpl : (backTo pos (starEach es X.env)).any (·.1) = false := by rfl) :
    SE X W (.Call (.Name "all" p) (e :: es) [] pos) (fL dAll A) := se_callB dAll (cr_all hc) vr_all hg hm bt_all ha (by decide) (by decide) he hpl
theorem xAny (hc : X.calm = true) (hm : X.mg "any" = none) (ha : SA X W (e :: es) A) (hg : Gl X "any" := by rfl) (he : starEach (e :: es) X.env = (false, eval e X.env) :: starEach es X.env := by rfl) (hpl : (backTo pos (starEach es X.env)).any (·.1) = false := by rfl) :
    SE X W (.Call (.Name "any" p) (e :: es) [] pos) (fL dAny A) := se_callB dAny (cr_any hc) vr_any hg hm bt_any ha (by decide) (by decide) he hpl
end
section
variable {tg a b : Expr} {F : EV → M D} {A : EV → M (List D)}
theorem jSeq (h : SE X W a F) : SI false X W tg a (iSeq F) := si_seq h
theorem jR1 (hm : X.mg "range" = none) (ha : SA X W [a] A) (hg : Gl X "range" := by rfl) (hs : starEach [a] X.env = [(false, eval a X.env)] := by rfl) : SI false X W tg (.Call (.Name "range" p) [a] [] pos) (iRan 1 A) := si_range1 hg hm ha hs
theorem jEn {elts : List Expr} {kk : Nat} {tpos : Pos} (hm : X.mg "enumerate" = none) (ha : SA X W [a] A) (hg : Gl X "enumerate" := by rfl) (hs : starEach [a] X.env = [(false, eval a X.env)] := by rfl) :
    SI true X W (.Tuple elts kk tpos) (.Call (.Name "enumerate" p) [a] [] pos) (iG dEnum A) := si_enum hg hm ha hs
end
section
variable {e : Expr} {F : EV → M D} {L : EV → M (List D)} {x : Str} {pn : Pos}
theorem sLet (i : Nat) (mk : List Bool) (hN : X.N.Nodup) (h : SE X W e F) (hi : X.N[i]? = some x := by rfl) (hx : Loc X.env.scope x := by first | exact Or.inl rfl | exact Or.inr rfl) (hs : swapsWith e (some (.Name x pn)) pos.line X.env = pure false := by rfl)
    (hf : X.fn x = true ∨ X.env.scope.names.lookup x = some .local := by first | exact .inr rfl | exact .inl rfl) : SS1 X W (.Assign [.Name x pn] e pos) (gAsg i mk F) := ss_asg mk (ps_set hN hi hx h.pe hs hf)
theorem sOwn (i : Nat) (mk : List Bool) (hN : X.N.Nodup) (h : SF X W e L) (hi : X.N[i]? = some x := by rfl) (hx : Loc X.env.scope x := by first | exact Or.inl rfl | exact Or.inr rfl) (hs : swapsWith e (some (.Name x pn)) pos.line X.env = pure false := by rfl)
    (hf : X.fn x = true ∨ X.env.scope.names.lookup x = some .local := by first | exact .inr rfl | exact .inl rfl) : SS1 X W (.Assign [.Name x pn] e pos) (gNew i mk L) := ss_new mk (ps_set hN hi hx h.pe hs hf)
theorem sApp (i : Nat) (mk : List Bool) {apos : Pos} (h : SE X W e F) (hi : X.N[i]? = some x := by rfl) (hv : Vis X.env.scope x := by first | exact Or.inl rfl | exact Or.inr (Or.inl rfl)) (hd : (x == ("__debug__" : Str)) = false := by decide) (hcd : (x == ("__classdict__" : Str)) = false := by decide)
    (hl : (apos.endLine == pos.line) = true := by rfl) (he : starEach [e] X.env = (false, eval e X.env) :: starEach [] X.env := by rfl)
    (hb : attributeBase (.Name x pn) "append" X.env (eval (.Name x pn) X.env) = eval (.Name x pn) X.env := by rfl)
    (hw : ((backTo pos (starEach [e] X.env)).all (fun x => !x.1) && (backToKw pos (keywordEach [] X.env)).all (fun x => x.1.isSome)
      && decide ([e].length + ([] : List Keyword).length + (if ([] : List Keyword).isEmpty then 0 else 1) < 30)) = true := by rfl)
    (hp : (backTo pos (starEach [] X.env)).any (·.1) = false := by rfl) (hs : swapsWith (.Call (.Attribute (.Name x pn) "append" apos) [e] [] pos) none p.line X.env = pure false := by rfl) :
    SS1 X W (.Expr (.Call (.Attribute (.Name x pn) "append" apos) [e] [] pos) p) (gApp i mk F) :=
  ss_app mk (ps_expr (pe_bm PySem.F.plainAttrs_list PySem.F.slot_list_append PySem.F.type_list_append mt_append (pv i hi hv hd hcd) (pa_cons h.pe pa_nil he) hb hw hl he hp) hs) fun σ H Q h => h
end
end
end Den
set_option Elab.async false
set_option linter.all false
set_option maxRecDepth 100000
set_option maxHeartbeats 4000000
namespace Den
open PySem PySem.Spec PyProof.Rows L2
section
variable {X : Cx} {W : WX} {pos p : Pos}
theorem new_imp {K : PySem.W.Frag} {L : EV → M (List D)} {σ : L2.St} {H : Hp} {Q : VK} (h : TE xi K W (fNew L) σ H Q) : TF xi K W L σ H Q := by
  obtain ⟨st, S, ρ, m, cv, er, o⟩ := h
  refine ⟨st, S, ρ, m, cv, er, ?_⟩
  replace o : Out K st S H ((L ρ >>= fun xs => pure (.lst xs)) m) Q (WE W σ) := o
  rw [bind_run] at o
  cases e1 : L ρ m with
  | ok ds m1 =>
    rw [e1] at o
    exact fun p vs H' n c cv1 hp r => o _ H' c cv1 (.lst (cv.out n) hp (r.mono (B := noB) (Chg.refl H') (fun _ z => z.elim) fun _ z => .inl z))
  | err c fs m1 => rw [e1] at o; exact o
  | bad => rw [e1] at o; exact o.elim
theorem lt_of_at {α : Type} {l : List α} {i : Nat} {x : α} (h : l[i]? = some x) : i < l.length := (List.getElem?_eq_some_iff.mp h).1
section
variable {x y : Str} {px py : Pos} {elt iter : Expr} {ifs : List Expr} {scope : Scope} {I : EV → M (List D)} {C : EV → M Bool} {E : EV → M D}
theorem lLc (i : Nat) (hc : X.calm = true) (hN : X.N.Nodup) (hI : SI false X W (.Name x px) iter I)
    (ht : ∀ (s : Shared) (H : Hp) (D : Addr) (cl : List (Str × Addr)) (fp : List Addr), STs (X.blk s H scope (compEnvC scope cl D X.env) fp) W0 ifs C)
    (he : ∀ (s : Shared) (H : Hp) (D : Addr) (cl : List (Str × Addr)) (fp : List Addr), SE (X.blk s H scope (compEnvC scope cl D X.env) fp) W0 elt E)
    (ok : blkC X.N X.env.scope scope [(x, i)] = true := by kernel_rfl) (hx : X.N[i]? = some x := by rfl)
    (hg : ∀ (s : Shared) (H : Hp) (D : Addr) (cl : List (Str × Addr)) (fp : List Addr), PG (X.blk s H scope (compEnvC scope cl D X.env) fp) (.Name x px) (gName i) := by
      first | exact fun _ _ _ _ _ => pg_name (by assumption) rfl (Or.inl rfl) (Or.inr rfl) | exact fun _ _ _ _ _ => pg_name (by assumption) rfl (Or.inr rfl) (Or.inl rfl))
    (hs : ∀ x, foldedSetIterable iter X.env x = pure x := by intro _; rfl) :
    SF X W (.ListComp elt [⟨.Name x px, iter, ifs, 0⟩] scope pos) (compV (eName i) I C E) := sf_lc hc hN (lt_of_at hx) hI (blkOk_by ok) hg ht he hs
theorem lLcP (i j : Nat) (hij : i ≠ j) {kk : Nat} {tpos : Pos} (hc : X.calm = true) (hN : X.N.Nodup) (hI : SI true X W (.Tuple [.Name x px, .Name y py] kk tpos) iter I)
    (ht : ∀ (s : Shared) (H : Hp) (D : Addr) (cl : List (Str × Addr)) (fp : List Addr), STs (X.blk s H scope (compEnvC scope cl D X.env) fp) W0 ifs C)
    (he : ∀ (s : Shared) (H : Hp) (D : Addr) (cl : List (Str × Addr)) (fp : List Addr), SE (X.blk s H scope (compEnvC scope cl D X.env) fp) W0 elt E)
    (ok : blkC X.N X.env.scope scope [(x, i), (y, j)] = true := by kernel_rfl) (hx : X.N[i]? = some x := by rfl) (hy : X.N[j]? = some y := by rfl)
    (hg : ∀ (s : Shared) (H : Hp) (D : Addr) (cl : List (Str × Addr)) (fp : List Addr), PG (X.blk s H scope (compEnvC scope cl D X.env) fp) (.Tuple [.Name x px, .Name y py] kk tpos) (gTup X.K 2 (gCons (gName i) (gCons (gName j) gNil))) := by
      exact fun _ _ _ _ _ => pg_tup rfl (pgs_cons (pg_name (by assumption) rfl (by first | exact Or.inl rfl | exact Or.inr rfl) (by first | exact Or.inr rfl | exact Or.inl rfl)) (pgs_cons (pg_name (by assumption) rfl (by first | exact Or.inl rfl | exact Or.inr rfl) (by first | exact Or.inr rfl | exact Or.inl rfl)) pgs_nil)))
    (hs : ∀ x, foldedSetIterable iter X.env x = pure x := by intro _; rfl) :
    SF X W (.ListComp elt [⟨.Tuple [.Name x px, .Name y py] kk tpos, iter, ifs, 0⟩] scope pos) (compV (ePair i j) I C E) :=
  sf_lcG (own := [(x, i), (y, j)]) hc hN (fun q hq => by
    simp at hq
    rcases hq with e | e
    · rw [e]; exact lt_of_at hx
    · rw [e]; exact lt_of_at hy) hI (blkOk_by ok) (bndE_pair hij) hg ht he hs
theorem cNone {X : Cx} {W : WX} : STs X W [] tYes := sts_nil
theorem cOne {X : Cx} {W : WX} {c : Expr} {C : EV → M Bool} (h : ST X W c C) : STs X W [c] C := sts_one h
/-- z = [..] with one name -/
theorem sLc (z i : Nat) (mk : List Bool) {zn : Str} {pz spos : Pos} (hc : X.calm = true) (hN : X.N.Nodup) (hI : SI false X W (.Name x px) iter I)
    (ht : ∀ (s : Shared) (H : Hp) (D : Addr) (cl : List (Str × Addr)) (fp : List Addr), STs (X.blk s H scope (compEnvC scope cl D X.env) fp) W0 ifs C)
    (he : ∀ (s : Shared) (H : Hp) (D : Addr) (cl : List (Str × Addr)) (fp : List Addr), SE (X.blk s H scope (compEnvC scope cl D X.env) fp) W0 elt E)
    (ok : blkC X.N X.env.scope scope [(x, i)] = true := by kernel_rfl) (hz : X.N[z]? = some zn := by rfl) (hx : X.N[i]? = some x := by rfl) (hzl : X.env.scope.names.lookup zn = some .local := by rfl)
    (hg : ∀ (s : Shared) (H : Hp) (D : Addr) (cl : List (Str × Addr)) (fp : List Addr), PG (X.blk s H scope (compEnvC scope cl D X.env) fp) (.Name x px) (gName i) := by
      first | exact fun _ _ _ _ _ => pg_name (by assumption) rfl (Or.inl rfl) (Or.inr rfl) | exact fun _ _ _ _ _ => pg_name (by assumption) rfl (Or.inr rfl) (Or.inl rfl))
    (hsw : swapsWith (.ListComp elt [⟨.Name x px, iter, ifs, 0⟩] scope pos) (some (.Name zn pz)) spos.line X.env = pure true := by first | exact sw_true rfl rfl rfl (by decide +kernel) | rfl)
    (hs : ∀ x, foldedSetIterable iter X.env x = pure x := by intro _; rfl) :
    PS X (.Assign [.Name zn pz] (.ListComp elt [⟨.Name x px, iter, ifs, 0⟩] scope pos) spos) (tAsg (TF X.xi X.K W (compV (eName i) I C E)) (gName z)) :=
  ⟨fun pins s σ H Dn Iv h => by
    have e0 := Iv.ok.hd hc
    have hip := hI.pi
    rw [xi_none e0] at h hip
    exact (ps_setLc (i := z) (own := [(x, i)]) (g := gName i) hc hN hz hzl hsw hip (blkOk_by ok) hg (fun s H D cl fp => by have z := (ht s H D cl fp).pt; rw [xi_none (show (X.blk s H scope (compEnvC scope cl D X.env) fp).A.handled = none from e0)] at z; exact z) (fun s H D cl fp => by have z := (he s H D cl fp).pe; rw [xi_none (show (X.blk s H scope (compEnvC scope cl D X.env) fp).A.handled = none from e0)] at z; exact z) hs).run pins s σ H Dn Iv (lc_imp (vs := [i]) (by rw [Iv.len]; simpa using lt_of_at hx) bndE_name h)⟩
theorem sLetLc {s : Stmt} {z : Nat} {L : EV → M (List D)} (mk : List Bool) (h : PS X s (tAsg (TF X.xi X.K W L) (gName z))) : SS1 X W s (gAsg z mk (fNew L)) := ss_asg mk (PS.imp h fun Dn σ H q => new_imp q)
theorem sOwnLc {s : Stmt} {z : Nat} {L : EV → M (List D)} (mk : List Bool) (h : PS X s (tAsg (TF X.xi X.K W L) (gName z))) : SS1 X W s (gNew z mk L) := ss_new mk h
end
section
variable {x y : Str} {px py : Pos} {iter : Expr} {body : List Stmt} {I : EV → M (List D)} {B : SV → M Fl}
theorem sFor (i : Nat) (hN : X.N.Nodup) (hp : PassesOwn (model X.prog X.w) X.A X.env X.xe) (hc : X.calm = true) (hI : SI false X W (.Name x px) iter I) (hB : SS X W body B) (hx : X.N[i]? = some x := by rfl)
    (hl : Loc X.env.scope x := by first | exact Or.inl rfl | exact Or.inr rfl) (hf : X.fn x = true ∨ X.env.scope.names.lookup x = some .local := by first | exact Or.inl rfl | exact Or.inr rfl)
    (hs : ∀ x, foldedSetIterable iter X.env x = pure x := by intro _; rfl) : SS1 X W (.For (.Name x px) iter body [] pos) (gFor I (bName i) B) := ss_for hp hc hI (pg_name hN hx hl hf) bnd_name hB hs
theorem sForP (i j : Nat) {kk : Nat} {tpos : Pos} (hN : X.N.Nodup) (hp : PassesOwn (model X.prog X.w) X.A X.env X.xe) (hc : X.calm = true) (hI : SI true X W (.Tuple [.Name x px, .Name y py] kk tpos) iter I) (hB : SS X W body B) (hx : X.N[i]? = some x := by rfl) (hy : X.N[j]? = some y := by rfl)
    (hl : Loc X.env.scope x := by first | exact Or.inl rfl | exact Or.inr rfl) (hf : X.fn x = true ∨ X.env.scope.names.lookup x = some .local := by first | exact Or.inl rfl | exact Or.inr rfl)
    (hl2 : Loc X.env.scope y := by first | exact Or.inl rfl | exact Or.inr rfl) (hf2 : X.fn y = true ∨ X.env.scope.names.lookup y = some .local := by first | exact Or.inl rfl | exact Or.inr rfl)
    (hn : (assignEach [.Name x px, .Name y py] X.env).length = 2 := by rfl) (hst : (assignEach [.Name x px, .Name y py] X.env).findIdx? (·.1) = none := by rfl)
    (hq : (assignEach [.Name x px, .Name y py] X.env).map (·.2) = assign (.Name x px) X.env :: (assignEach [.Name y py] X.env).map (·.2) := by rfl) (hq2 : (assignEach [.Name y py] X.env).map (·.2) = assign (.Name y py) X.env :: (assignEach [] X.env).map (·.2) := by rfl)
    (hs : ∀ x, foldedSetIterable iter X.env x = pure x := by intro _; rfl) : SS1 X W (.For (.Tuple [.Name x px, .Name y py] kk tpos) iter body [] pos) (gFor I (bPair i j) B) :=
  ss_for hp hc hI (pg_tup hc (pgs_cons (pg_name hN hx hl hf) (pgs_cons (pg_name hN hy hl2 hf2) pgs_nil hq2) hq) hn hst) bnd_pair hB hs
end
section
variable {F G : EV → M D} {a e : Expr} {x : Str}
theorem sSet (i : Nat) (mk : List Bool) {ap sp spos : Pos} (he : SE X W e F) (ha : SE X W a G) (hi : X.N[i]? = some x := by rfl) (hv : Vis X.env.scope x := by first | exact Or.inl rfl | exact Or.inr (Or.inl rfl)) (hd : (x == ("__debug__" : Str)) = false := by decide) (hcd : (x == ("__classdict__" : Str)) = false := by decide)
    (h : ∀ {tx tf ti : L2.TE}, PE X (.Name x ap) tx → PE X e tf → PE X a ti → PS X (.Assign [.Subscript (.Name x ap) a sp] e spos) (tAsg tf (gSub tx ti rSetL)) := by exact fun hx hf hi => ps_asg hf (pg_sub hx hi set_list (fun _ => rfl))) :
    SS1 X W (.Assign [.Subscript (.Name x ap) a sp] e spos) (gSet i mk F G) := ss_set mk (h (pv i hi hv hd hcd) he.pe ha.pe)
theorem sSto (i : Nat) {ap sp spos : Pos} (he : SE X W e F) (ha : SE X W a G) (hj : ∀ ρ m, (∃ k, G ρ m = .ok (.int k) m) ∨ G ρ m = .bad := by exact fun _ _ => Or.inl ⟨_, rfl⟩) (hi : X.N[i]? = some x := by rfl) (hv : Vis X.env.scope x := by first | exact Or.inl rfl | exact Or.inr (Or.inl rfl)) (hd : (x == ("__debug__" : Str)) = false := by decide) (hcd : (x == ("__classdict__" : Str)) = false := by decide)
    (h : ∀ {tx tf ti : L2.TE}, PE X (.Name x ap) tx → PE X e tf → PE X a ti → PS X (.Assign [.Subscript (.Name x ap) a sp] e spos) (tAsg tf (gSub tx ti rSetL)) := by exact fun hx hf hi => ps_asg hf (pg_sub hx hi set_list (fun _ => rfl))) :
    SS1 X W (.Assign [.Subscript (.Name x ap) a sp] e spos) (gSetS i F G) := ss_setS (h (pv i hi hv hd hcd) he.pe ha.pe) hj
theorem sRet (h : SE X W e F) : SS1 X W (.Return (some e) pos) (gRet F) := ss_ret h
theorem cBo {C : EV → M Bool} (h : SW X W e C) : ST X W e C := ⟨h.pw.pt⟩
end
end
section
variable {X : Cx} {W : WX} {pos p tp : Pos} {e : Expr} {F : EV → M D}
theorem xIsiG (n : String) {x : Str} (hb : bootBuiltins x = some (.type n)) (hl : (Cl.ty n).okB none = true) (hn : x ≠ "__name__") (hd : (x == ("__debug__" : Str)) = false) (ha : SE X W e F) (hm : X.mg "isinstance" = none) (hm2 : X.mg x = none) (hg : Gl X "isinstance") (hg2 : Gl X x)
    (he : starEach (e :: [.Name x tp]) X.env = (false, eval e X.env) :: starEach [.Name x tp] X.env) (he2 : starEach [.Name x tp] X.env = (false, eval (.Name x tp) X.env) :: starEach [] X.env) (hpl : (backTo pos (starEach [.Name x tp] X.env)).any (·.1) = false) :
    SE X W (.Call (.Name "isinstance" p) [e, .Name x tp] [] pos) (gIsi none [.ty n] F) :=
  se_isi (oc := none) (cl := .ty n) (vc := .ty n) (fun _ h => nomatch h) hl ha (pe_bltn hg2 hm2 hb rfl hn hd) (.ty n) hg hm he he2 hpl
theorem xIsi_int (ha : SE X W e F) (hm : X.mg "isinstance" = none) (hm2 : X.mg "int" = none) (hg : Gl X "isinstance" := by rfl) (hg2 : Gl X "int" := by rfl)
    (he : starEach (e :: [.Name "int" tp]) X.env = (false, eval e X.env) :: starEach [.Name "int" tp] X.env := by rfl) (he2 : starEach [.Name "int" tp] X.env = (false, eval (.Name "int" tp) X.env) :: starEach [] X.env := by rfl) (hpl : (backTo pos (starEach [.Name "int" tp] X.env)).any (·.1) = false := by rfl) :
    SE X W (.Call (.Name "isinstance" p) [e, .Name "int" tp] [] pos) (gIsi none [.ty "int"] F) := xIsiG "int" bt_int (by decide) (by decide) (by decide) ha hm hm2 hg hg2 he he2 hpl
theorem xIsi_bool (ha : SE X W e F) (hm : X.mg "isinstance" = none) (hm2 : X.mg "bool" = none) (hg : Gl X "isinstance" := by rfl) (hg2 : Gl X "bool" := by rfl)
    (he : starEach (e :: [.Name "bool" tp]) X.env = (false, eval e X.env) :: starEach [.Name "bool" tp] X.env := by rfl) (he2 : starEach [.Name "bool" tp] X.env = (false, eval (.Name "bool" tp) X.env) :: starEach [] X.env := by rfl) (hpl : (backTo pos (starEach [.Name "bool" tp] X.env)).any (·.1) = false := by rfl) :
    SE X W (.Call (.Name "isinstance" p) [e, .Name "bool" tp] [] pos) (gIsi none [.ty "bool"] F) := xIsiG "bool" bt_bool (by decide) (by decide) (by decide) ha hm hm2 hg hg2 he he2 hpl
theorem xIsi_str (ha : SE X W e F) (hm : X.mg "isinstance" = none) (hm2 : X.mg "str" = none) (hg : Gl X "isinstance" := by rfl) (hg2 : Gl X "str" := by rfl)
    (he : starEach (e :: [.Name "str" tp]) X.env = (false, eval e X.env) :: starEach [.Name "str" tp] X.env := by rfl) (he2 : starEach [.Name "str" tp] X.env = (false, eval (.Name "str" tp) X.env) :: starEach [] X.env := by rfl) (hpl : (backTo pos (starEach [.Name "str" tp] X.env)).any (·.1) = false := by rfl) :
    SE X W (.Call (.Name "isinstance" p) [e, .Name "str" tp] [] pos) (gIsi none [.ty "str"] F) := xIsiG "str" bt_str (by decide) (by decide) (by decide) ha hm hm2 hg hg2 he he2 hpl
theorem xIsi_tuple (ha : SE X W e F) (hm : X.mg "isinstance" = none) (hm2 : X.mg "tuple" = none) (hg : Gl X "isinstance" := by rfl) (hg2 : Gl X "tuple" := by rfl)
    (he : starEach (e :: [.Name "tuple" tp]) X.env = (false, eval e X.env) :: starEach [.Name "tuple" tp] X.env := by rfl) (he2 : starEach [.Name "tuple" tp] X.env = (false, eval (.Name "tuple" tp) X.env) :: starEach [] X.env := by rfl) (hpl : (backTo pos (starEach [.Name "tuple" tp] X.env)).any (·.1) = false := by rfl) :
    SE X W (.Call (.Name "isinstance" p) [e, .Name "tuple" tp] [] pos) (gIsi none [.ty "tuple"] F) := xIsiG "tuple" bt_tuple (by decide) (by decide) (by decide) ha hm hm2 hg hg2 he he2 hpl
theorem pa_consts {t1 t2 : Expr} {v1 v2 : V} (h1 : PE X t1 (tC v1)) (h2 : PE X t2 (tC v2)) (e1 : starEach [t1, t2] X.env = (false, eval t1 X.env) :: starEach [t2] X.env) (e2 : starEach [t2] X.env = (false, eval t2 X.env) :: starEach [] X.env) : PA X [t1, t2] (fun _ H Q => Q [v1, v2] H) := pa_cons h1 (pa_cons h2 pa_nil e2) e1
theorem xIsiT (n1 n2 : String) {x y : Str} {px py : Pos} {x1 : Nat} (hb : bootBuiltins x = some (.type n1)) (hb2 : bootBuiltins y = some (.type n2)) (hl : [Cl.ty n1, Cl.ty n2].all (fun cl => cl.okB none) = true) (hn : x ≠ "__name__") (hd : (x == ("__debug__" : Str)) = false) (hn2 : y ≠ "__name__") (hd2 : (y == ("__debug__" : Str)) = false)
    (ha : SE X W e F) (hm : X.mg "isinstance" = none) (hm1 : X.mg x = none) (hm2 : X.mg y = none) (hg : Gl X "isinstance" := by rfl) (hg1 : Gl X x := by rfl) (hg2 : Gl X y := by rfl)
    (h1 : starEach [.Name x px, .Name y py] X.env = (false, eval (.Name x px) X.env) :: starEach [.Name y py] X.env := by rfl) (h2 : starEach [.Name y py] X.env = (false, eval (.Name y py) X.env) :: starEach [] X.env := by rfl)
    (he : starEach (e :: [.Tuple [.Name x px, .Name y py] x1 tp]) X.env = (false, eval e X.env) :: starEach [.Tuple [.Name x px, .Name y py] x1 tp] X.env := by rfl) (he2 : starEach [.Tuple [.Name x px, .Name y py] x1 tp] X.env = (false, eval (.Tuple [.Name x px, .Name y py] x1 tp) X.env) :: starEach [] X.env := by rfl) (hpl : (backTo pos (starEach [.Tuple [.Name x px, .Name y py] x1 tp] X.env)).any (·.1) = false := by rfl) :
    SE X W (.Call (.Name "isinstance" p) [e, .Tuple [.Name x px, .Name y py] x1 tp] [] pos) (gIsi none [.ty n1, .ty n2] F) :=
  se_isiT (oc := none) (cls := [.ty n1, .ty n2]) (vs := [.ty n1, .ty n2]) (fun _ h => nomatch h) hl ha (pa_consts (pe_bltn hg1 hm1 hb rfl hn hd) (pe_bltn hg2 hm2 hb2 rfl hn2 hd2) h1 h2) (.cons (.ty n1) (.cons (.ty n2) .nil)) (by show 2 ≤ 1000; omega) hg hm he he2 hpl
end
section
variable {X : Cx} {W : WX} {pos p : Pos} {e : Expr} {F : EV → M D} {x y : Str}
theorem sMov (io il : Nat) {px py apos bpos cpos : Pos} (h : SE X W e F) (hi : X.N[io]? = some x := by rfl) (hi2 : X.N[il]? = some y := by rfl) (hv : Vis X.env.scope x := by first | exact Or.inl rfl | exact Or.inr (Or.inl rfl)) (hv2 : Vis X.env.scope y := by first | exact Or.inl rfl | exact Or.inr (Or.inl rfl))
    (hd : (x == ("__debug__" : Str)) = false := by decide) (hcd : (x == ("__classdict__" : Str)) = false := by decide) (hd2 : (y == ("__debug__" : Str)) = false := by decide) (hcd2 : (y == ("__classdict__" : Str)) = false := by decide)
    (k : ∀ {tx ty te : L2.TE}, PE X (.Name x px) tx → PE X (.Name y py) ty → PE X e te → PS X (.Expr (.Call (.Attribute (.Name x px) "append" apos) [.Call (.Attribute (.Name y py) "pop" bpos) [e] [] cpos] [] pos) p) (tDrop (tBM X.K "list" rAppend tx (tCons (tBM X.K "list" rPopAt ty (tCons te tNil)) tNil))) := by
      exact fun hx hy he => ps_expr (pe_bm PySem.F.plainAttrs_list PySem.F.slot_list_append PySem.F.type_list_append mt_append hx (pa_cons (pe_bm PySem.F.plainAttrs_list PySem.F.slot_list_pop PySem.F.type_list_pop mt_popAt hy (pa_cons he pa_nil)) pa_nil))) :
    SS1 X W (.Expr (.Call (.Attribute (.Name x px) "append" apos) [.Call (.Attribute (.Name y py) "pop" bpos) [e] [] cpos] [] pos) p) (gMov io il F) := ss_mov (k (pv io hi hv hd hcd) (pv il hi2 hv2 hd2 hcd2) h.pe)
end
end Den
set_option Elab.async false
set_option linter.all false
set_option maxRecDepth 100000
set_option maxHeartbeats 4000000
namespace Den
open PySem PySem.Spec PyProof.Rows L2
/-- a getter by its function -/
structure Prp (P : Program) (w : World) (K : PySem.W.Frag) (mg : Str → Option Value) (base : Heap) (k : Nat) (c f : Str) (ps : List Str) (g : List D → M D) : Prop where
  ex : ∃ (p fa : Addr) (fd : FuncData), PropOf K (He.ga K c) f p fa ∧ Binds K fd ps [] ∧ FnOk P w K mg base (L2N.CX P w) k fa fd ps (spOf K g)
  cls : Cls K (He.ga K c)
/-- a method by its function -/
structure Mth (P : Program) (w : World) (K : PySem.W.Frag) (mg : Str → Option Value) (base : Heap) (k : Nat) (c m : Str) (ps : List Str) (g : List D → M D) : Prop where
  ex : ∃ (fa : Addr) (fd : FuncData), Meth K (He.ga K c) m fa ∧ Binds K fd ps [] ∧ FnOk P w K mg base (L2N.CX P w) k fa fd ps (spOf K g)
structure Fld (K : PySem.W.Frag) (c f : Str) : Prop where
  cls : Cls K (He.ga K c)
  no : NoAttr K (He.ga K c) f
/-- a class that makes its instances by __init__ -/
structure Mkr (P : Program) (w : World) (K : PySem.W.Frag) (mg : Str → Option Value) (base : Heap) (k : Nat) (x q : Str) (params : Arguments) (body : List Stmt) (scope : Scope) (kws : List (Str × V)) (ps : List Str) (g : List D → M (List (Str × D))) : Prop where
  ex : ∃ (fa : Addr) (fd : FuncData), mg x = some (.ref (He.ga K x)) ∧ Mk K (He.ga K x) fa ∧ FunD K "__init__" q params body scope [] kws fa fd ∧ FnOk P w K mg base (L2N.CX P w) k fa fd ps (spIni K x g)
section
variable {X : Cx} {W : WX} {pos p tp : Pos} {e a b : Expr} {es : List Expr} {F G : EV → M D} {A Ak : EV → M (List D)} {c f x q : Str} {k : Nat} {ps : List Str} {g : List D → M D} {kws : List Keyword} {params : Arguments} {body : List Stmt} {scope : Scope}
theorem xProp (pc : Prp X.prog X.w X.K X.mg X.base k c f ps g) (hr : Room (k + 1) X.A) (h : SE X W e F) (hab : attributeBase e f X.env (eval e X.env) = eval e X.env := by rfl) : SE X W (.Attribute e f pos) (gProp c g F) := by
  obtain ⟨p, fa, fd, h1, h2, h3⟩ := pc.ex
  exact se_prop pc.cls h1 h3 hr h2 h hab
theorem xFld (fc : Fld X.K c f) (h : SE X W e F) (hb : attributeBase e f X.env (eval e X.env) = eval e X.env := by rfl) : SE X W (.Attribute e f pos) (gFld c f F) := se_fld fc.cls fc.no h hb
def dEqC (c : Str) (g : List D → M D) : D → D → M D := fun x y => do need (isObj c x == isObj c y); dEqO c g x y
theorem xEqO (mc : Mth X.prog X.w X.K X.mg X.base k c "__eq__" ps g) (hr : Room k X.A) (ha : SE X W a F) (hb : SE X W b G) : SE X W (.Compare a [.Eq] [b] pos) (f2 (dEqC c g) F G) := by
  obtain ⟨fa, fd, h1, h2, h3⟩ := mc.ex
  exact se_cmpN (dEqC c g) ((op_own_eq hr.units h1 h3 hr h2).or (op_eqD hr.units)) (xi_room hr) vr_eqO ha hb (nomark _)
theorem xIsiO (hc : InstC X.K c) (ha : SE X W e F) (hm : X.mg "isinstance" = none) (hm2 : X.mg c = some (.ref (He.ga X.K c))) (hg : Gl X "isinstance" := by rfl) (hg2 : Gl X c := by rfl) (hd : (c == ("__debug__" : Str)) = false := by decide)
    (he : starEach (e :: [.Name c tp]) X.env = (false, eval e X.env) :: starEach [.Name c tp] X.env := by rfl) (he2 : starEach [.Name c tp] X.env = (false, eval (.Name c tp) X.env) :: starEach [] X.env := by rfl) (hpl : (backTo pos (starEach [.Name c tp] X.env)).any (·.1) = false := by rfl) :
    SE X W (.Call (.Name "isinstance" p) [e, .Name c tp] [] pos) (gIsi (some c) [.own c] F) :=
  se_isi (oc := some c) (cl := .own c) (vc := .ref (He.ga X.K c)) (fun d h => by cases h; exact hc) (by unfold Cl.okB; simp) ha (pe_glob hg2 hm2 rfl hd) (.own _) hg hm he he2 hpl
theorem kNil : SK X W [] aN := sk_nil
theorem kCons {nm : Option Str} {kpos : Pos} {kws : List Keyword} (ha : SE X W e F) (hr : SK X W kws A) : SK X W (⟨nm, e, kpos⟩ :: kws) (aC F A) := sk_cons ha hr
/-- C(e, .., k = v, ..), __init__ with keyword-only parameters, those of ms left out -/
theorem xMake {kw0 : List (Str × V)} {gi : List D → M (List (Str × D))} (mc : Mkr X.prog X.w X.K X.mg X.base k x q params body scope kw0 ps gi) (n : Nat) (ks : List Str) (pl : List Nat) (ms : List (Str × V)) (cd : List D) (hk : kw0 ≠ []) (hms : ∀ z ∈ ms, z ∈ kw0) (hcs : Paired CV (ms.map (·.2)) cd)
    (hb : ∀ (D : Addr) (doc pm : Value) (an : Option Addr) (cdv ct : Value) (us mv ws : List Value), us.length = n + 1 → mv.length = ms.length → ws.length = ks.length →
      KwChain D ((ms.map (·.1)).zip mv) (bindArgs (PySem.W.fnOf "__init__" q params body scope .none (.ref D) doc pm an cdv ct) ⟨us, ks.zip ws⟩) (ps.zip (pick (0 :: pl.map (· + 1)) (us ++ (ws ++ mv)))))
    (hr : Room (k + 1) X.A) (ha : SA X W (e :: es) A) (hkw : SK X W kws Ak) (hg : Gl X x := by rfl) (hall : (backToKw pos (keywordEach kws X.env)).all (·.1.isSome) = true := by rfl) (hks : (backToKw pos (keywordEach kws X.env)).filterMap (·.1) = ks := by rfl) (hdb : (x == ("__debug__" : Str)) = false := by decide)
    (he : starEach (e :: es) X.env = (false, eval e X.env) :: starEach es X.env := by rfl) (hpl : ((backTo pos (starEach (e :: es) X.env)).any (·.1) || (backToKw pos (keywordEach kws X.env)).any (·.1.isNone)) = false := by rfl) :
    SE X W (.Call (.Name x p) (e :: es) kws pos) (gCallK (fun ds => noErr (do let fs ← gi ds; pure (.obj x fs))) A Ak n ks.length pl cd) := by
  obtain ⟨fa, fd, h1, h2, h3, h4⟩ := mc.ex
  exact se_make h2 h4 hr hg h1 (kb_kwo h3 (n + 1) ks ms (0 :: pl.map (· + 1)) hk hms hb) hcs ha hkw hall hks hdb he hpl
/-- list(x) -/
def dList : List D → M (List D)
  | [.lst xs] => pure xs
  | [.tup xs] => pure xs
  | [.scr ns] => pure (ns.map .int)
  | _ => M.bad
def lG (g : List D → M (List D)) (A : EV → M (List D)) : EV → M (List D) := fun ρ => do let ds ← A ρ; g ds
theorem lList (hm : X.mg "list" = none) (ha : SA X W (e :: es) A) (hg : Gl X "list" := by rfl) (he : starEach (e :: es) X.env = (false, eval e X.env) :: starEach es X.env := by rfl) (hpl : (backTo pos (starEach es X.env)).any (·.1) = false := by rfl) :
    SF X W (.Call (.Name "list" p) (e :: es) [] pos) (lG dList A) := by
  refine .imp (pe_callTy call_list_of hg hm bt_list ha.pa (by decide) (by decide) he hpl) fun σ H Q ⟨st, S, ρ, m, cv, er, o⟩ => ?_
  refine TAD.bindF (G := fun ds _ => dList ds) cv er o fun vs ds m1 H1 c1 cv1 er1 r1 o1 => ?_
  match ds, r1, o1 with
  | [.lst xs], r1, o1 =>
    obtain ⟨v, rfl, rv⟩ := repL1 r1
    cases rv with
    | lst hn hs rr => exact ⟨_, _, rfl, .inl (SqL.of hs), out_new cv1 o1 rr⟩
  | [.tup xs], r1, o1 =>
    obtain ⟨v, rfl, rv⟩ := repL1 r1
    cases rv with
    | tup hs rr => exact ⟨_, _, rfl, .inr hs.sq, out_new cv1 o1 rr⟩
  | [.scr ns], r1, o1 =>
    obtain ⟨v, rfl, rv⟩ := repL1 r1
    cases rv with
    | scr hs => exact ⟨_, _, rfl, .inl hs.sq, out_new cv1 o1 (repI _)⟩
  | [.non], _, o1 => exact o1.elim
  | [.bl _], _, o1 => exact o1.elim
  | [.int _], _, o1 => exact o1.elim
  | [.str _], _, o1 => exact o1.elim
  | [.obj _ _], _, o1 => exact o1.elim
  | [.sto], _, o1 => exact o1.elim
  | [], _, o1 => exact o1.elim
  | d :: _ :: _, _, o1 => cases d <;> exact o1.elim
end
theorem ss_bad {X : Cx} {W : WX} {ss : List Stmt} : SS X W ss gBad := ⟨PSs.imp pss_never fun Dn σ H ⟨st, S, ρ, m, H0, k, e, o⟩ => o⟩
section
variable {X : Cx} {W : WX} {pos : Pos} {e : Expr} {F : EV → M D} {x c f : Str}
theorem sFldS (i : Nat) {px p' : Pos} (fc : Fld X.K c f) (h : SE X W e F) (hi : X.N[i]? = some x := by rfl) (hv : Vis X.env.scope x := by first | exact Or.inl rfl | exact Or.inr (Or.inl rfl)) (hd : (x == ("__debug__" : Str)) = false := by decide) (hcd : (x == ("__classdict__" : Str)) = false := by decide)
    (hs : swapsWith e (some (.Attribute (.Name x px) f p')) pos.line X.env = pure false := by rfl) : SS1 X W (.Assign [.Attribute (.Name x px) f p'] e pos) (gFldSet i c f F) := ss_fld fc.cls fc.no (ps_fld (pv i hi hv hd hcd) h.pe hs)
end
end Den
set_option Elab.async false
set_option linter.all false
set_option maxRecDepth 100000
set_option maxHeartbeats 4000000
namespace Den
open PySem PySem.Spec PyProof.Rows L2
section
variable {X : Cx}
theorem pss_lock {sts : List Stmt} {t : L2.TS} (h : PSs X sts t) : PSs X sts (tLock t) := by
  refine ⟨fun pins s σ H D I hw => ?_⟩
  obtain ⟨d, u, hd, mu, hw⟩ := hw
  obtain ⟨od, I1⟩ := I.lock hd mu
  refine thn (h.run pins s σ _ _ I1 (hw od)) fun f s1 q => ?_
  cases f with
  | next => obtain ⟨σ', H', I2, e, q⟩ := q; exact ⟨σ', _, I2.unlock e (I.nofrz hd mu), q⟩
  | brk => obtain ⟨σ', H', I2, e, q⟩ := q; exact ⟨σ', _, I2.unlock e (I.nofrz hd mu), q⟩
  | cont => obtain ⟨σ', H', I2, e, q⟩ := q; exact ⟨σ', _, I2.unlock e (I.nofrz hd mu), q⟩
  | ret v => obtain ⟨x, σ', H', I2, r, e, q⟩ := q; exact ⟨x, σ', _, I2.unlock e (I.nofrz hd mu), r, q⟩
end
/-- what is promised of a law -/
def spLaw (K : PySem.W.Frag) : Sp := fun vs H Q _ => ∃ (a : Addr) (ns : List Int), vs = [.ref a] ∧ ns.length ≤ 63 ∧ Only H ∧ SqL K H a (ns.map V.int) ∧ ∀ H', Q (.bl true) H'
theorem repInts {K : PySem.W.Frag} {st : Stx xi} {S : Addr → Prop} {H : Hp} : ∀ {ns : List Int} {vs : List V}, RepL K st S H vs (ns.map D.int) → vs = ns.map V.int
  | [], _, .nil => rfl
  | n :: ns, _, .cons r t => by
    cases r
    rw [repInts t]; rfl
def sv0 (n i : Nat) (ns : List Int) : SV := (Sl.va (.scr ns) :: List.replicate (n - 1) .no).set i (.va .sto)
def ev0 (n : Nat) (ns : List Int) : EV := some (.scr ns) :: List.replicate (n - 1) none
theorem fn_law {P : Program} {w : World} {K : PySem.W.Frag} {mg : Str → Option Value} {base : Heap} {params : Arguments} {body rest : List Stmt} {s0 : Stmt} {scope : Scope} {f : Addr} {fd : FuncData} {N : List Str} {k i : Nat} {G0 : EV → M D} {G : SV → M Fl} {cs : List Int → List Int} {xs : List Int}
    (F : FunD K "law" "law" params body scope [] [] f fd) (Sc : FnScope N ["script"] scope) (hb : body = s0 :: rest) (hi : 0 < i) (hN : i < N.length)
    (h0 : ∀ (cdv : Value) (A : Around) (outer : List Env) (s : Shared) (H : Hp) (E : XK), Room k (A.deeper (envOfC "law" scope s.heap.objs.size f cdv)) → PS (cxOf (L2N.CX P w) P w K mg base N "law" scope f cdv A outer s H E) s0 (tAsg (TE (cxOf (L2N.CX P w) P w K mg base N "law" scope f cdv A outer s H E).xi K (wE E) G0) (gName i)))
    (hr : ∀ (cdv : Value) (A : Around) (outer : List Env) (s : Shared) (H : Hp) (E : XK), Room k (A.deeper (envOfC "law" scope s.heap.objs.size f cdv)) → SS (cxOf (L2N.CX P w) P w K mg base N "law" scope f cdv A outer s H E) (wE E) rest G)
    (hst : ∀ (ns : List Int) (m : SM), ns.length ≤ 63 → G0 (ev0 N.length ns) m = .ok (.lst (.lst ((cs ns).map .int) :: xs.map .int)) m)
    (hG : ∀ ns : List Int, ns.length ≤ 63 → ∃ m', G (sv0 N.length i ns) ⟨cs ns, xs⟩ = .ok (.rt (.bl true)) m') :
    FnOk P w K mg base (L2N.CX P w) (k + 1) f fd ["script"] (spLaw K) := by
  subst hb
  refine F.ok Sc (fun vs H Q E ⟨a, ns, e, _⟩ => by rw [e]; rfl) fun cdv A outer s H vs Q E hR ⟨a, ns, e, hl, hO, hS, hQ⟩ => ⟨_, pss_cons (by have z := h0 cdv A outer s H E hR; rw [xi_room (X := cxOf (L2N.CX P w) P w K mg base N "law" scope f cdv A outer s H E) hR] at z; exact z) (pss_lock (by have z := (hr cdv A outer s H E hR).ps; rw [xi_room (X := cxOf (L2N.CX P w) P w K mg base N "law" scope f cdv A outer s H E) hR] at z; exact z)), ?_⟩
  subst e
  have fz : Fz K H a (ns.map V.int) := Fz.of hO hS
  have hst' := hst ns ⟨[], []⟩ hl
  have stEq : L2.start N [V.ref a] = some (.ref a) :: List.replicate (N.length - 1) none := rfl
  refine ⟨⟨none⟩, fun _ => False, ev0 N.length ns, ⟨[], []⟩, ⟨fun _ z => z.elim, fun _ _ z => nomatch z⟩, ⟨fun j d h => ?_⟩, ?_⟩
  · rw [stEq]
    cases j with
    | zero =>
      cases h
      exact ⟨.ref a, rfl, .scr fz⟩
    | succ j =>
      have h' : (List.replicate (N.length - 1) (none : Option D))[j]? = some (some d) := h
      have := List.mem_of_getElem? h'
      cases (List.mem_replicate.mp this).2
  · rw [hst']
    intro v H1 c1 cv1 r1
    cases r1 with
    | lst n1 h1 rr =>
    rename_i a1 vs1
    cases rr with
    | cons rc rx =>
    rename_i vc vx
    have ex := repInts rx
    subst ex
    cases rc with
    | lst n2 h2 rcc =>
    rename_i c vcs
    have ec := repInts rcc
    subst ec
    have ne : a1 ≠ c := fun z => by
      subst z
      rw [h1] at h2
      cases hcs : cs ns with
      | nil => rw [hcs] at h2; cases h2
      | cons q qs => rw [hcs] at h2; cases h2
    refine ⟨c, _, h2, trivial, fun od => ?_⟩
    have fz2 : Fz K (upd H1 c (.frz od (.lst ((cs ns).map V.int)))) a (ns.map V.int) := by
      rcases fz with ⟨o, z⟩ | z
      · have z1 : H1 a = some (.frz o (.lst (ns.map V.int))) := c1.keep z (.inl rfl)
        have na : a ≠ c := fun q => by rw [q, h2] at z1; cases z1
        exact .inl ⟨o, by rw [upd_ne na]; exact z1⟩
      · exact .inr z
    have at1 : (upd H1 c (.frz od (.lst ((cs ns).map V.int)))) a1 = some (.lst (.ref c :: xs.map V.int)) := by rw [upd_ne ne]; exact h1
    have cv2 : Cov K (⟨some (a1, c)⟩ : Stx none) (fun b => b = a1) (upd H1 c (.frz od (.lst ((cs ns).map V.int)))) ⟨cs ns, xs⟩ := by
      refine ⟨fun b z => by rw [z, at1]; simp, fun b d z => ?_⟩
      cases z
      exact ⟨rfl, at1, .inl ⟨od, upd_same⟩⟩
    have noOwn : ∀ j b, ¬ OwnAt (sv0 N.length i ns) ((L2.start N [V.ref a]).set i (some (.ref a1))) j b := fun j b ⟨⟨sl, g1, g2⟩, _⟩ => by
      have hm := List.mem_of_getElem? g1
      rcases List.mem_or_eq_of_mem_set hm with hm | hm
      · rcases List.mem_cons.mp hm with hm | hm
        · rw [hm] at g2; cases g2
        · rw [(List.mem_replicate.mp hm).2] at g2; cases g2
      · rw [hm] at g2; cases g2
    have len1 : (Sl.va (.scr ns) :: List.replicate (N.length - 1) Sl.no).length = N.length := by simp; omega
    have atv : ∀ (j : Nat) (sl : Sl), (sv0 N.length i ns)[j]? = some sl → (j = i ∧ sl = .va .sto) ∨ (j = 0 ∧ sl = .va (.scr ns)) ∨ sl = .no := fun j sl g => by
      unfold sv0 at g
      by_cases hj : j = i
      · subst hj
        rw [List.getElem?_set_self (by rw [len1]; exact hN)] at g
        exact .inl ⟨rfl, (Option.some.inj g).symm⟩
      · rw [List.getElem?_set_ne (Ne.symm hj)] at g
        cases j with
        | zero => exact .inr (.inl ⟨rfl, (Option.some.inj g).symm⟩)
        | succ j => exact .inr (.inr (List.mem_replicate.mp (List.mem_of_getElem? (show (List.replicate (N.length - 1) Sl.no)[j]? = some sl from g))).2)
    have ee : EnvS K (⟨some (a1, c)⟩ : Stx none) (fun b => b = a1) (upd H1 c (.frz od (.lst ((cs ns).map V.int)))) (upd H1 c (.frz od (.lst ((cs ns).map V.int)))) ((L2.start N [V.ref a]).set i (some (.ref a1))) (sv0 N.length i ns) := by
      refine ⟨fun j d g => ?_, fun j ys g => ?_, fun j cn fs g => ?_, fun j l b o _ => (noOwn j b o).elim, ?_⟩
      · rcases atv j _ g with ⟨e1, e2⟩ | ⟨e1, e2⟩ | e2
        · cases e2
          subst e1
          refine ⟨.ref a1, List.getElem?_set_self ?_, .sto rfl⟩
          rw [stEq]; simp; omega
        · cases e2
          subst e1
          refine ⟨.ref a, ?_, .scr fz2⟩
          rw [List.getElem?_set_ne (by omega), stEq]; rfl
        · cases e2
      · rcases atv j _ g with ⟨_, e2⟩ | ⟨_, e2⟩ | e2 <;> cases e2
      · rcases atv j _ g with ⟨_, e2⟩ | ⟨_, e2⟩ | e2 <;> cases e2
      · rw [List.length_set, stEq]
        unfold sv0
        simp
    refine ⟨⟨some (a1, c)⟩, fun b => b = a1, sv0 N.length i ns, ⟨cs ns, xs⟩, _, ⟨cv2, cv2.dom, Chg.refl _⟩, ee, ?_⟩
    obtain ⟨m', hG'⟩ := hG ns hl
    rw [hG']
    intro v Hf kf rf
    cases rf
    exact ⟨kf.chg.keep upd_same (.inl rfl), hQ _⟩
end Den
set_option Elab.async false
set_option linter.all false
set_option maxRecDepth 100000
set_option maxHeartbeats 4000000
namespace Den
open PySem PySem.Spec PyProof.Rows L2
section
variable {X : Cx} {W : WX} {pos : Pos} {e : Expr} {F : EV → M D}
def gExp (F : EV → M D) : SV → M Fl := fun ρ => exB (F (vw [] ρ)) ρ fun _ => pure (.nx ρ)
theorem sExp (h : SE X W e F) (hs : swapsWith e none pos.line X.env = pure false := by rfl) : SS1 X W (.Expr e pos) (gExp F) :=
  ⟨PS.imp (ps_expr h.pe hs) fun Dn σ H ⟨st, S, ρ, m, H0, k, e, o⟩ => TE.stm (mk := []) k e o fun v d m1 H1 c1 k1 cv1 e1 r1 o1 => o1 σ H1 k1 e1 Pers.refl⟩
end
end Den
set_option Elab.async false
set_option linter.all false
set_option maxRecDepth 100000
set_option maxHeartbeats 4000000
namespace Den
open PySem PySem.Spec PyProof.Rows L2
section
variable {X : Cx} {e : Expr} {es : List Expr} {ta : L2.TA} {p pos : Pos}
/-- its object is new, its context is None -/
theorem pmk_new {x : Str} {C fI : Addr} {k : Nat} {fd : FuncData} {ps : List Str} {sp : Sp} (T : OexC X.K C) (iC : PySem.W.findIn X.K (.ref C) "__init__" = some (some (.ref fI))) (tI : PySem.W.typeIn X.K (.ref fI) = some (.type "function"))
    (Fn : FnOk X.prog X.w X.K X.mg X.base (L2N.CX X.prog X.w) k fI fd ps sp) (hr : Room (k + 1) X.A) (hb : Binds X.K fd ps []) (hg : Gl X x) (hm : X.mg x = some (.ref C)) (ha : PA X (e :: es) ta)
    (hdb : (x == ("__debug__" : Str)) = false) (he : starEach (e :: es) X.env = (false, eval e X.env) :: starEach es X.env) (hpl : (backTo pos (starEach es X.env)).any (·.1) = false) :
    L2N.PMk X (.Call (.Name x p) (e :: es) [] pos) (tMkO C sp [] ta) := by
  intro pins s σ H Q I h
  obtain ⟨_, _, _, _, bm, _, _, _, _, _, _, _, _, _, _, hC, hbm⟩ := T.cls
  apply wpAny_Call_Name_kw
  apply ld_glob I hg hm _ hdb
  refine PySem.W.callWith_K (h₀ := X.base) I.ok.mod.kin T.kC (thn (ha.run pos pins s σ H _ I h) ?_) he hpl
  rintro us ⟨hp, g, dr, tk, os⟩ ⟨vs, H1, I1, r1, hz, q1⟩
  refine ⟨I1.kIn, ?_⟩
  have low : hp.objs.size ≤ hp.objs.size + 1 := Nat.le_succ _
  generalize hh2 : (hp.push (PySem.W.kdv_tup us)).push (PySem.HandSPX.excO C hp.objs.size) = hp2
  have grow : ∀ b o, hp.get? b = some o → hp2.get? b = some o := fun b o z => by
    subst hh2
    exact Heap.get?_push_of_some _ (Heap.get?_push_of_some _ z)
  have there : hp2.get? (hp.objs.size + 1) = some (PySem.HandSPX.excO C hp.objs.size) := by
    subst hh2
    heap_get
  have J := I1.laid (t' := tk) (a := hp.objs.size + 1) (o := exo (hp.objs.size + 1) C none) (h' := hp2) grow low (exo_ok there)
  have q2 := q1 (hp.objs.size + 1) (I1.hok.fresh low)
  have rr : Vals (V.ref (hp.objs.size + 1) :: (vs ++ [])) (Value.ref (hp.objs.size + 1) :: us) := .cons rfl (by rw [List.append_nil]; exact r1)
  have ll : (Value.ref (hp.objs.size + 1) :: us).length = ps.length := rr.length.symm.trans (Fn.len _ _ _ _ q2)
  have few : us.length ≤ sizeLine := by
    have := r1.length
    rw [sizeLine_eq]
    omega
  have bd := hb _ (Value.ref (hp.objs.size + 1) :: us) J.kIn (by simpa using ll)
  rw [List.append_nil] at bd
  apply wpAny_call
  have run := Fn.run _ X.stack _ _ ⟨Value.ref (hp.objs.size + 1) :: us, []⟩ _ _ _ (fun _ _ _ => False) (hr.make C us []) (J.env0.make C us []) bd rr q2
  have C1 := I1.kIn _ _ hC
  have C2 := PySem.W.looks_findIn (M := model X.prog X.w) I1.kIn iC
  refine PySem.HandSPX.call_own F.excBase_ValueError (fun Y => PySem.HandSPX.refsVE_contains Y bm hbm) C1 C2 (fun self => PySem.W.bind_fn I1.kIn self tI) few ?_
  subst hh2
  refine codeAny_mono run fun res s' z => ?_
  match res, z with
  | .error ev, z => exact passL pins σ _ _ ev s' J z
  | .ok .next, z => exact z.elim
  | .ok .brk, z => exact z.elim
  | .ok .cont, z => exact z.elim
  | .ok (.ret u), z =>
    obtain ⟨v, H2, os2, bare2, un2, hok2, rv, ev, d, fs, ea, ed, nd, q3⟩ := z
    subst ev
    obtain ⟨h2, g2, d2, t2, os'⟩ := s'
    refine ⟨rv, ?_⟩
    obtain ⟨t0, G, J2, kG, ge, hoe, na⟩ := mk_end0 (d2 := d2) (t2 := t2) I1 low grow un2 hok2 os2 bare2 ea ed nd
    exact ⟨_, _, _, ⟨G, g2, d2, t2, os'⟩, _, .ref C, some d, rfl, J2, kG, ge, hoe, ⟨rfl, rfl, fun vs e => by cases e; rfl⟩, rfl, rfl, na, rfl, bare2, raises_own T.exC T.tyC, q3⟩
end
def kept {α : Type} (names : List Str) (us : List α) : List (Str × α) := (names.zip us).reverse
/-- what such an __init__ promises -/
def spOex (K : PySem.W.Frag) (c : Str) (names : List Str) : Sp := fun vs H Q _ => ∃ (a : Addr) (us : List V), vs = .ref a :: us ∧ us.length = names.length ∧ H a = some (exo a (He.ga K c) none) ∧
  ∀ dx, H dx = none → dx ≠ a → Q .non (upd (upd H dx (exd dx (kept names us))) a (exo a (He.ga K c) (some dx)))
theorem repF_app {K : PySem.W.Frag} {st : Stx xi} {S : Addr → Prop} {H : Hp} {v : List (Str × V)} {d : List (Str × D)} (t : RepF K st S H v d) : ∀ {vs : List (Str × V)} {ds : List (Str × D)}, RepF K st S H vs ds → RepF K st S H (vs ++ v) (ds ++ d)
  | _, _, .nil => t
  | _, _, .cons r s => .cons r (repF_app t s)
theorem repF_rev {K : PySem.W.Frag} {st : Stx xi} {S : Addr → Prop} {H : Hp} : ∀ {vs : List (Str × V)} {ds : List (Str × D)}, RepF K st S H vs ds → RepF K st S H vs.reverse ds.reverse
  | _, _, .nil => .nil
  | _, _, .cons r s => by
    rw [List.reverse_cons, List.reverse_cons]
    exact repF_app (.cons r .nil) (repF_rev s)
theorem repF_zip {K : PySem.W.Frag} {st : Stx xi} {S : Addr → Prop} {H : Hp} : ∀ {names : List Str} {vs : List V} {ds : List D}, RepL K st S H vs ds → RepF K st S H (names.zip vs) (names.zip ds)
  | [], _, _, _ => by rw [List.zip_nil_left, List.zip_nil_left]; exact .nil
  | _ :: _, _, _, .nil => by rw [List.zip_nil_right, List.zip_nil_right]; exact .nil
  | _ :: _, _, _, .cons r t => .cons r (repF_zip t)
theorem repF_kept {K : PySem.W.Frag} {st : Stx xi} {S : Addr → Prop} {H : Hp} {names : List Str} {vs : List V} {ds : List D} (r : RepL K st S H vs ds) : RepF K st S H (kept names vs) (kept names ds) := repF_rev (repF_zip r)
/-- C(..) by name: its class, its __init__ -/
structure Exn (P : Program) (w : World) (K : PySem.W.Frag) (mg : Str → Option Value) (base : Heap) (k : Nat) (c : Str) (names ps : List Str) : Prop where
  ex : ∃ (fI : Addr) (fd : FuncData), mg c = some (.ref (He.ga K c)) ∧ OexC K (He.ga K c) ∧ PySem.W.findIn K (.ref (He.ga K c)) "__init__" = some (some (.ref fI)) ∧ PySem.W.typeIn K (.ref fI) = some (.type "function") ∧ Binds K fd ps [] ∧ FnOk P w K mg base (L2N.CX P w) k fI fd ps (spOex K c names)
section
variable {X : Cx} {W : WX} {pos p pos' : Pos} {e : Expr} {es : List Expr} {A : EV → M (List D)} {c : Str} {k : Nat} {names ps : List Str}
def gRaise (c : Str) (names : List Str) (A : EV → M (List D)) : SV → M Fl := fun ρ => exB (A (vw [] ρ)) ρ fun ds => do
  need (decide (ds.length = names.length) && decide (names.length ≤ 100))
  pure (.ex c (kept names ds) ρ)
theorem sRaise (x : Exn X.prog X.w X.K X.mg X.base k c names ps) (tk : Takes X W) (hc : X.calm = true) (hr : Room (k + 1) X.A) (ha : SA X W (e :: es) A) (hg : Gl X c := by rfl)
    (hdb : (c == ("__debug__" : Str)) = false := by decide) (he : starEach (e :: es) X.env = (false, eval e X.env) :: starEach es X.env := by rfl) (hpl : (backTo pos (starEach es X.env)).any (·.1) = false := by rfl) :
    SS1 X W (.Raise (some (.Call (.Name c p) (e :: es) [] pos)) none pos') (gRaise c names A) := by
  obtain ⟨fI, fd, h1, h2, h3, h4, h5, h6⟩ := x.ex
  refine ⟨PS.imp (L2N.ps_raise hc tk (pmk_new h2 h3 h4 h6 hr h5 hg h1 ha.pa hdb he hpl)) fun Dn σ H ⟨st, S, ρ, m, H0, kk, ee, o⟩ => ?_⟩
  refine ⟨st, _, vw [] ρ, m, kk.view ee [], ee.view kk.dom0 [], ?_⟩
  unfold gRaise at o
  rw [exB_run] at o
  cases q : A (vw [] ρ) m with
  | bad => rw [q] at o; exact o.elim
  | err cn fs m1 =>
    rw [q] at o
    exact fun dd fv H1 c1 cv g1 g2 r => o dd fv σ H1 (kk.after c1 cv) (ee.after kk c1) g1 (kk.chg.free g2) (r.mono (B := noB) (Chg.refl H1) (fun _ z => z.elim) fun a z => .inl z)
  | ok ds m1 =>
    rw [q] at o
    intro vs H1 c1 cv r1
    obtain ⟨hl, o2⟩ := out_need (P := fun r => OutS X.K W st S H0 H σ ρ r Dn) (fun z => z) o
    obtain ⟨hl1, hl2⟩ := Bool.and_eq_true_iff.mp hl
    have hl1 := of_decide_eq_true hl1
    have hl2 := of_decide_eq_true hl2
    have lv : vs.length = names.length := r1.length.trans hl1
    refine ⟨by omega, fun a na => ?_⟩
    refine ⟨a, vs, by rw [List.append_nil], lv, upd_same, fun dx nd ne => ?_⟩
    refine ⟨rfl, dx, kept names vs, upd_same, ?_, ?_, ?_⟩
    · rw [upd_ne ne, upd_same]
    · rw [upd_ne ne] at nd; exact nd
    · have nd' : H1 dx = none := by rw [upd_ne ne] at nd; exact nd
      have eH : upd (del (upd (upd (upd H1 a (exo a (He.ga X.K c) none)) dx (exd dx (kept names vs))) a (exo a (He.ga X.K c) (some dx))) a) dx (.xd (kept names vs)) = upd H1 dx (.xd (kept names vs)) := by
        funext b
        by_cases hb : b = dx
        · subst hb; rw [upd_same, upd_same]
        · rw [upd_ne hb, upd_ne hb]
          by_cases hba : b = a
          · subst hba; rw [del_same, na]
          · rw [del_ne hba, upd_ne hba, upd_ne hb, upd_ne hba]
      rw [eH]
      have k1 := kk.after c1 cv
      have e1 := ee.after kk c1
      have cn : Chg (atSt st) H1 (upd H1 dx (.xd (kept names vs))) := Chg.new nd'
      exact o2 dx (kept names vs) σ _ (k1.after cn (k1.cov.new nd')) (e1.after k1 cn) upd_same (k1.chg.free nd') (repF_kept (r1.mono (Chg.new (B := noB) nd') (fun _ z => z.elim) fun a z => .inl z))
end
end Den
set_option Elab.async false
set_option linter.all false
set_option maxRecDepth 100000
set_option maxHeartbeats 4000000
namespace Den
open PySem PySem.Spec PyProof.Rows L2
theorem upd_swap {H : Hp} {a dx : Addr} {x z y : HO} (h : dx ≠ a) : upd (upd (upd H dx x) a y) dx z = upd (upd H dx z) a y := by
  funext b
  by_cases hb : b = dx
  · subst hb; rw [upd_same, upd_ne h, upd_same]
  · rw [upd_ne hb]
    by_cases hba : b = a
    · subst hba; rw [upd_same, upd_same]
    · rw [upd_ne hba, upd_ne hba, upd_ne hb, upd_ne hb]
section
variable {P : Program} {w : World} {K : PySem.W.Frag} {mg : Str → Option Value} {base : Heap} {q c f1 f2 p1 p2 : Str} {params : Arguments} {body : List Stmt} {scope : Scope} {fI : Addr} {fd : FuncData} {k : Nat}
theorem fn_oex1 (F : FunD K "__init__" q params body scope [] [] fI fd) (Sc : FnScope ["self", p1] ["self", p1] scope) (T : OexC K (He.ga K c)) (no : PySem.W.findIn K (.ref (He.ga K c)) f1 = some none)
    (hb : ∀ (cdv : Value) (A : Around) (outer : List Env) (s : Shared) (H : Hp) (E : XK), PSs (cxOf (L2N.CX P w) P w K mg base ["self", p1] q scope fI cdv A outer s H E) body (tOst K f1 (tVar 0) (tVar 1))) :
    FnOk P w K mg base (L2N.CX P w) (k + 1) fI fd ["self", p1] (spOex K c [f1]) := by
  refine F.ok Sc (fun vs H Q E ⟨a, us, e, l, _⟩ => by rw [e, List.length_cons, l]; rfl) fun cdv A outer s H vs Q E hR ⟨a, us, e, l, ha, hq⟩ => ⟨_, hb cdv A outer s H E, ?_⟩
  match us, l with
  | [y], _ =>
    subst e
    exact ⟨y, rfl, .ref a, rfl, a, _, rfl, T, no, .inl ⟨ha, fun dx nd ne => hq dx nd ne⟩⟩
theorem fn_oex2 (F : FunD K "__init__" q params body scope [] [] fI fd) (Sc : FnScope ["self", p1, p2] ["self", p1, p2] scope) (T : OexC K (He.ga K c)) (no : PySem.W.findIn K (.ref (He.ga K c)) f1 = some none) (no2 : PySem.W.findIn K (.ref (He.ga K c)) f2 = some none)
    (hb : ∀ (cdv : Value) (A : Around) (outer : List Env) (s : Shared) (H : Hp) (E : XK), PSs (cxOf (L2N.CX P w) P w K mg base ["self", p1, p2] q scope fI cdv A outer s H E) body (tSeq (tOst K f1 (tVar 0) (tVar 1)) (tOst K f2 (tVar 0) (tVar 2)))) :
    FnOk P w K mg base (L2N.CX P w) (k + 1) fI fd ["self", p1, p2] (spOex K c [f1, f2]) := by
  refine F.ok Sc (fun vs H Q E ⟨a, us, e, l, _⟩ => by rw [e, List.length_cons, l]; rfl) fun cdv A outer s H vs Q E hR ⟨a, us, e, l, ha, hq⟩ => ⟨_, hb cdv A outer s H E, ?_⟩
  match us, l with
  | [y, z], _ =>
    subst e
    refine ⟨y, rfl, .ref a, rfl, a, _, rfl, T, no, .inl ⟨ha, fun dx nd ne => ?_⟩⟩
    refine ⟨z, rfl, .ref a, rfl, a, _, rfl, T, no2, .inr ⟨dx, [(f1, y)], upd_same, ?_, by show 1 ≤ 900; decide, ?_⟩⟩
    · rw [upd_ne ne, upd_same]
    · rw [upd_swap ne]
      exact hq dx nd ne
end
end Den
set_option Elab.async false
set_option linter.all false
set_option maxRecDepth 100000
set_option maxHeartbeats 4000000
namespace Den
open PySem PySem.Spec PyProof.Rows L2 He
def shapeB (C : Addr) (o : Obj) : Bool := match o.cls, o.data, o.slots.toList with
  | .type t, .cls cd, [_, _, _, _, some (.builtin n), _] => t == "type" && (n == "ValueError.__new__" && (cd.hasDict && (!cd.hasDel && (match cd.mro with
    | .ref C' :: bm => C' == C && PySem.HandSPX.refsVE bm
    | _ => false))))
  | _, _, _ => false
def oexB (K : PySem.W.Frag) (C : Addr) : Bool := (match K.lookup C with
  | some o => shapeB C o
  | none => false) && (eqO (PySem.W.findIn K (.ref C) "__setattr__") (some (some (.builtin "object.__setattr__"))) && (decide (PySem.W.subIn K (.ref C) (.type "BaseException") = some true) && (decide (PySem.W.typeIn K (.ref C) = some (.type "type")) && PySem.W.keepIn K (.ref C))))
theorem shape_ok {C : Addr} {o : Obj} (h : shapeB C o = true) : ∃ nm q N bs bm sn sub ab col dd k0 k1 k2 k3 k5, o = excClassObj nm q C N bs bm true sn sub ab col dd k0 k1 k2 k3 k5 "ValueError.__new__" ∧ PySem.HandSPX.refsVE bm = true := by
  obtain ⟨oc, od, dt, ⟨sl⟩⟩ := o
  unfold shapeB at h
  split at h
  · rename_i t cd k0 k1 k2 k3 n k5 e1 e2 e3
    simp only at e1 e2 e3
    subst e1 e2 e3
    simp only [Bool.and_eq_true, beq_iff_eq, Bool.not_eq_true'] at h
    obtain ⟨h1, h2, h3, h4, h5⟩ := h
    subst h1 h2
    obtain ⟨nm, bs, mro, ns, qn, hd, sn, sub, ab, col, del⟩ := cd
    dsimp only at h3 h4 h5
    subst h3 h4
    split at h5
    · rename_i C' bm
      simp only [Bool.and_eq_true, beq_iff_eq] at h5
      obtain ⟨h6, h7⟩ := h5
      subst h6
      exact ⟨nm, qn, ns, bs, bm, sn, sub, ab, col, od, k0, k1, k2, k3, k5, rfl, h7⟩
    · cases h5
  · cases h
theorem oexB_ok {K : PySem.W.Frag} {C : Addr} (h : oexB K C = true) : OexC K C := by
  obtain ⟨h1, h⟩ := ba h
  obtain ⟨h2, h⟩ := ba h
  obtain ⟨h3, h⟩ := ba h
  obtain ⟨h4, h5⟩ := ba h
  refine ⟨?_, eqO_ok h2, of_decide_eq_true h3, of_decide_eq_true h4, h5⟩
  generalize q : K.lookup C = r at h1
  match r, q, h1 with
  | none, _, h1 => cases h1
  | some o, q, h1 =>
    obtain ⟨nm, q', N, bs, bm, sn, sub, ab, col, dd, k0, k1, k2, k3, k5, e, hr⟩ := shape_ok h1
    exact ⟨nm, q', N, bs, bm, sn, sub, ab, col, dd, k0, k1, k2, k3, k5, by rw [e], hr⟩
end Den
set_option Elab.async false
set_option linter.all false
set_option maxRecDepth 100000
set_option maxHeartbeats 4000000
namespace Den
open PySem PySem.Spec PyProof.Rows L2
section
variable {X : Cx} {W : WX} {pos p tp : Pos} {e a b : Expr} {es : List Expr} {F G : EV → M D} {A : EV → M (List D)} {c f x q : Str} {k : Nat} {ps : List Str} {g : List D → M D}
/-- what a class knows of its operator's method -/
def gBinO (c : Str) (g : List D → M D) (F G : EV → M D) : EV → M D := fun ρ => do let x ← F ρ; let y ← G ρ; need (isObj c x && isObj c y); let z ← g [x, y]; need (isObj c z); pure z
def gGetO (c : Str) (g : List D → M D) (F G : EV → M D) : EV → M D := fun ρ => do let x ← F ρ; let y ← G ρ; need (isObj c x); g [x, y]
theorem run_in {A' : Around} {σ : L2.St} {pins : List (Addr × Obj)} {H : Hp} {s : Shared} {Q : VK} {fa : Addr} {fd : FuncData} {us : List Value} {vs : List V} (Fn : FnOk X.prog X.w X.K X.mg X.base (L2N.CX X.prog X.w) k fa fd ps (spOf X.K g)) (tk : Takes X W) (hr : Room k A') (hfr : A'.frames = X.A.frames) (hb : Binds X.K fd ps [])
    (I : L2.Inv X pins σ H s) (r : Vals vs us) (h : spOf X.K g vs H Q (WE W σ)) : wpAny (model X.prog X.w) A' (call (.ref fa) us) (EP X pins σ Q) X.xe s := by
  have e0 := I.env0
  have e1 : L2.Env0 X.prog X.w X.K X.mg X.base A' X.stack s H := ⟨hfr.trans e0.frames, e0.mod, e0.bs, e0.bsz, e0.funs, e0.frf, e0.hok, e0.bare⟩
  have hl : us.length = ps.length := r.length.symm.trans (Fn.len _ _ _ _ h)
  have hbd := hb s us I.kIn (by simpa using hl)
  rw [List.append_nil] at hbd
  have run := Fn.run A' X.stack s H ⟨us, []⟩ us vs Q (WE W σ) hr e1 hbd r h
  apply wpAny_call
  apply codeAny_mono run
  intro res s' z
  match res, z with
  | .error ev, z => exact passAt tk σ pins H s ev s' I z
  | .ok (.ret u), z => exact I.after z
  | .ok .next, z => exact z.elim
  | .ok .brk, z => exact z.elim
  | .ok .cont, z => exact z.elim
theorem xGetO (mc : Mth X.prog X.w X.K X.mg X.base k c "__getitem__" ps g) (hfn : ∀ fa, PySem.W.findIn X.K (.ref (He.ga X.K c)) "__getitem__" = some (some (.ref fa)) → PySem.W.fnIn X.K fa = true) (tk : Takes X W) (hr : Room (k + 1) X.A) (ha : SE X W a F) (hb : SE X W b G)
    (hsl : ∀ o i, subscripted b true o i = runValue (.builtin "lifetime.subscript" ⟨[o, i], []⟩) := by intro _ _; with_unfolding_all rfl) : SE X W (.Subscript a b pos) (gGetO c g F G) := by
  obtain ⟨fa, fd, h1, h2, h3⟩ := mc.ex
  constructor
  constructor
  intro pins s σ H Q I h0
  have hap := ha.pe
  have hbp := hb.pe
  rw [xi_room hr] at h0 hap hbp
  obtain ⟨st, S, ρ, m, cv, er, o⟩ := h0
  have key : tOp (fun x y H2 Q => ∃ a dx fv, x = .ref a ∧ H2 a = some (.ins (He.ga X.K c) dx fv) ∧ spOf X.K g [x, y] H2 Q (WE W σ)) (TE none X.K W F) (TE none X.K W G) σ H Q := by
    refine TE.bind (G := fun x ρ => do let y ← G ρ; need (isObj c x); g [x, y]) cv er o fun v d m1 H1 c1 cv1 er1 r1 o1 => ?_
    refine TE.bind (G := fun y _ => do need (isObj c d); g [d, y]) cv1 er1 o1 fun u d2 m2 H2 c2 cv2 er2 r2 o2 => ?_
    obtain ⟨hc, o3⟩ := out_need (P := fun r => Out X.K st S H2 r Q (WE W σ)) (fun z => z) o2
    have r1' := r1.mono c2 cv1.sub fun _ z => z
    obtain ⟨a, dx, fv, e1, e2⟩ := rep_obj r1' hc
    exact ⟨a, dx, fv, e1, e2, st, S, [d, d2], m2, cv2, .cons r1' (.cons r2 .nil), o3⟩
  refine Subscript_ (binT hap hbp I key fun v u s2 x y H2 I2 rx ry z => ?_)
  obtain ⟨a0, dx, fv, ex, ea, z⟩ := z
  subst ex
  obtain rfl : v = Value.ref a0 := rx
  obtain ⟨⟨mm, hF⟩, od, J⟩ := fr_inst I2 ea
  exact PySem.W.sub_K hF I2.ok.mod.kin J h1.at_ (hfn fa h1.at_) h1.fn (run_in h3 tk hr.in1 rfl h2 I2 (.cons (relRef0 a0) (.cons ry .nil)) z) (hsl _ _)
theorem xBinO {op : Operator} {md : Str} (hmd : PySem.dunder op.info.2 = md) (mc : Mth X.prog X.w X.K X.mg X.base k c md ps g) (hsf : PySem.W.selfFirst X.K (He.ga X.K c) = true) (tk : Takes X W) (hr : Room k X.A) (ha : SE X W a F) (hb : SE X W b G) : SE X W (.BinOp a op b pos) (gBinO c g F G) := by
  obtain ⟨fa, fd, h1, h2, h3⟩ := mc.ex
  subst hmd
  constructor
  constructor
  intro pins s σ H Q I h0
  have hap := ha.pe
  have hbp := hb.pe
  rw [xi_room hr] at h0 hap hbp
  obtain ⟨st, S, ρ, m, cv, er, o⟩ := h0
  have key : tOp (fun x y H2 Q => ∃ a b dx dy fv fw, x = .ref a ∧ y = .ref b ∧ H2 a = some (.ins (He.ga X.K c) dx fv) ∧ H2 b = some (.ins (He.ga X.K c) dy fw) ∧ spOf X.K g [x, y] H2 (fun v H => (∃ a, v = .ref a) ∧ Q v H) (WE W σ)) (TE none X.K W F) (TE none X.K W G) σ H Q := by
    refine TE.bind (G := fun x ρ => do let y ← G ρ; need (isObj c x && isObj c y); let z ← g [x, y]; need (isObj c z); pure z) cv er o fun v d m1 H1 c1 cv1 er1 r1 o1 => ?_
    refine TE.bind (G := fun y _ => do need (isObj c d && isObj c y); let z ← g [d, y]; need (isObj c z); pure z) cv1 er1 o1 fun u d2 m2 H2 c2 cv2 er2 r2 o2 => ?_
    obtain ⟨hc, o3⟩ := out_need (P := fun r => Out X.K st S H2 r Q (WE W σ)) (fun z => z) o2
    obtain ⟨hc1, hc2⟩ := Bool.and_eq_true_iff.mp hc
    have r1' := r1.mono c2 cv1.sub fun _ z => z
    obtain ⟨a, dx, fv, e1, e2⟩ := rep_obj r1' hc1
    obtain ⟨b, dy, fw, e3, e4⟩ := rep_obj r2 hc2
    refine ⟨a, b, dx, dy, fv, fw, e1, e3, e2, e4, st, S, [d, d2], m2, cv2, .cons r1' (.cons r2 .nil), ?_⟩
    rw [bind_run] at o3
    cases q : g [d, d2] m2 with
    | bad => rw [q] at o3; exact o3.elim
    | err cn fs m3 => rw [q] at o3; exact o3
    | ok z m3 =>
      rw [q] at o3
      obtain ⟨hz, o4⟩ := out_need (P := fun r => Out X.K st S H2 r Q (WE W σ)) (fun z => z) o3
      intro v3 H3 c3 cv3 r3
      obtain ⟨a3, _, _, e5, _⟩ := rep_obj r3 hz
      exact ⟨⟨a3, e5⟩, o4 v3 H3 c3 cv3 r3⟩
  refine wpAny_BinOp (binT hap hbp I key fun v u s2 x y H2 I2 rx ry z => ?_)
  obtain ⟨a0, b0, dx, dy, fv, fw, ex, ey, ea, eb, z⟩ := z
  subst ex ey
  obtain rfl : v = Value.ref a0 := rx
  obtain rfl : u = Value.ref b0 := ry
  obtain ⟨⟨mm, hF⟩, od, J⟩ := fr_inst I2 ea
  obtain ⟨_, od', J'⟩ := fr_inst I2 eb
  refine PySem.W.binop_K hF I2.ok.mod.kin J J'.type hsf h1.at_ h1.fn ?_
  refine wpAny_mono (run_in h3 tk hr rfl h2 I2 (.cons (relRef0 a0) (.cons (relRef0 b0) .nil)) z) (fun w s' hz => ?_) fun _ _ z => z
  obtain ⟨v', H', I', r', ⟨a', ea'⟩, q'⟩ := hz
  subst ea'
  obtain rfl : w = Value.ref a' := r'
  show EP X pins σ Q (.ref a') s'
  exact ⟨.ref a', H', I', relRef0 a', q'⟩
end
end Den
set_option Elab.async false
set_option linter.all false
set_option maxRecDepth 100000
set_option maxHeartbeats 4000000
namespace Den
open PySem PySem.Spec PyProof.Rows L2
/-- what an exception's class must say -/
def excB (K : PySem.W.Frag) (D : Addr) : Bool := xfB K D && (He.eqO (PySem.W.findIn K (.ref D) "__class__") (some (some (.builtin "object.__class__"))) && (He.eqO (PySem.W.specialIn K (.builtin "object.__class__") "__get__") (some (some (.builtin "getset_descriptor.__get__"))) && (decide (PySem.W.takesIn K (.builtin "object.__class__") = some true) && decide (PySem.W.mroIn K D (.type "object") = some true))))
theorem excB_ok {K : PySem.W.Frag} {D : Addr} (h : excB K D = true) : ExcC K D := by
  obtain ⟨h1, h⟩ := He.ba h
  obtain ⟨h2, h⟩ := He.ba h
  obtain ⟨h3, h⟩ := He.ba h
  obtain ⟨h4, h5⟩ := He.ba h
  obtain ⟨g1, g2, g3, g4⟩ := xfB_ok h1
  exact ⟨g1, g2, g3, g4, He.eqO_ok h2, He.eqO_ok h3, of_decide_eq_true h4, of_decide_eq_true h5⟩
section
variable {X : Cx} {W : WX} {pos p : Pos} {e : Expr} {F : EV → M D}
theorem xi_pin {q : Addr × Obj} (h : X.xi = some q) : q ∈ X.pn := by
  unfold L2.Cx.xi at h
  split at h
  · cases h
  · exact List.mem_of_mem_head? h
/-- the instance of a handled exception -/
theorem exc_inst {pins : List (Addr × Obj)} {σ : L2.St} {H : Hp} {s : Shared} {a dd D : Addr} {oe : Obj} {fv : List (Str × V)} (I : L2.Inv X pins σ H s) (hx : X.xi = some (a, oe)) (hc : oe.cls = .ref D) (hd : oe.dict = some dd) (hf : ∃ vs, oe.data = .fields vs) (ha : H dd = some (.xd fv)) :
    ∃ od, PySem.W.InstAt s.heap a oe D (some od) ∧ ∀ f v, fv.lookup f = some v → ∃ u, PySem.W.lookIn f od = some (some u) ∧ RelV v u := by
  obtain ⟨hg, _⟩ := I.pin (a, oe) (List.mem_append_left _ (xi_pin hx))
  obtain ⟨vs, hv⟩ := hf
  obtain ⟨mA, hns, hr⟩ := (show ObjOk X.prog X.w H s.heap dd (.xd fv) from I.hok dd _ ha)
  obtain ⟨od, ho, hl⟩ := lookIn_ns hns
  refine ⟨od, ⟨hg, hc, by unfold PySem.W.notCls; rw [hv] <;> rfl, by rw [hd]; exact ho⟩, fun f v q => ?_⟩
  obtain ⟨u, hu, ru⟩ := RelO.some_of (v := v) (o := mA f) (by rw [← q]; exact hr f)
  exact ⟨u, by rw [hl, hu], ru⟩
def gXa (cs : List Str) (f : Str) (F : EV → M D) : EV → M D := fun ρ => do
  let x ← F ρ
  match x with
  | .exc c fs => do
    need (cs.contains c)
    match fs.lookup f with
    | some d => pure d
    | none => M.bad
  | _ => M.bad
/-- e.f -/
theorem xXa {cs : List Str} {f : Str} (T : ∀ c ∈ cs, XfC X.K (He.ga X.K c) ∧ PySem.W.findIn X.K (.ref (He.ga X.K c)) f = some none) (h : SE X W e F) (hb : attributeBase e f X.env (eval e X.env) = eval e X.env := by rfl) : SE X W (.Attribute e f pos) (gXa cs f F) := by
  constructor
  constructor
  intro pins s σ H Q I ⟨st, S, ρ, m, cv, er, o⟩
  have key : TE X.xi X.K W F σ H (fun x H1 => ∃ a oe dd c fv v, x = .ref a ∧ X.xi = some (a, oe) ∧ oe.cls = .ref (He.ga X.K c) ∧ oe.dict = some dd ∧ (∃ vs, oe.data = .fields vs) ∧ H1 dd = some (.xd fv) ∧ c ∈ cs ∧ fv.lookup f = some v ∧ Q v H1) := by
    refine TE.bind (G := fun x _ => match x with
      | .exc c fs => do
        need (cs.contains c)
        match fs.lookup f with
        | some d => pure d
        | none => M.bad
      | _ => M.bad) cv er o fun v d m1 H1 c1 cv1 er1 r1 o1 => ?_
    cases r1 with
    | exc g1 g2 g3 g4 g5 rf =>
      obtain ⟨hc, o2⟩ := out_need (P := fun r => Out X.K st S H1 r Q (WE W σ)) (fun z => z) o1
      rename_i a dd oe c fv fs
      cases q : fs.lookup f with
      | none => rw [q] at o2; exact o2.elim
      | some d =>
        rw [q] at o2
        obtain ⟨v, q1, q2⟩ := rf.get q
        exact ⟨a, oe, dd, c, fv, v, rfl, g1, g2, g3, g4, g5, List.contains_iff_mem.mp hc, q1, o2 v H1 (Chg.refl _) cv1 q2⟩
    | _ => exact o1.elim
  refine attr_of hb (thn (h.pe.run pins s σ H _ I key) fun u s1 z => ?_)
  obtain ⟨x, H1, I1, rx, a, oe, dd, c, fv, v, ex, hx, hc, hd, hf, ha, hm, lk, q⟩ := z
  subst ex
  obtain rfl : u = Value.ref a := rx
  obtain ⟨od, J, look⟩ := exc_inst I1 hx hc hd hf ha
  obtain ⟨w, lw, rw'⟩ := look f v lk
  obtain ⟨T1, T2⟩ := T c hm
  exact HandSPX.exc_get I1.kIn J T1.ga T1.gg T1.exC (PySem.W.findObj_own T1.hdC T2 rfl lw) (handed_of rw') ⟨v, H1, I1.tok _, rw', q⟩
def rIsx (X : Cx) : List V → Hp → VK → Prop := fun xs H Q => ∃ (a dd D : Addr) (oe : Obj) (fv : List (Str × V)) (t : V) (u : Value) (b : Bool), xs = [.ref a, t] ∧ X.xi = some (a, oe) ∧ oe.cls = .ref D ∧ oe.dict = some dd ∧ (∃ vs, oe.data = .fields vs) ∧ H dd = some (.xd fv) ∧ ExcC X.K D ∧ ClsV t u ∧ PySem.W.kitOne X.K (.ref D) u = some b ∧ Q (.bl b) H
def rIsxT (X : Cx) : List V → Hp → VK → Prop := fun xs H Q => ∃ (a dd D tp : Addr) (oe : Obj) (fv : List (Str × V)) (cs : List V) (us : List Value) (b : Bool), xs = [.ref a, .ref tp] ∧ H tp = some (.tup cs) ∧ Paired ClsV cs us ∧ X.xi = some (a, oe) ∧ oe.cls = .ref D ∧ oe.dict = some dd ∧ (∃ vs, oe.data = .fields vs) ∧ H dd = some (.xd fv) ∧ ExcC X.K D ∧ PySem.W.kitAny X.K (.ref D) us = some b ∧ Q (.bl b) H
theorem exc_kit {K : PySem.W.Frag} {x D : Addr} {ox : Obj} {od : Option Obj} (T : ExcC K D) : PySem.W.KitX K (.ref x) (.ref D) (fun h => PySem.W.InstAt h x ox D od) := by
  have hcl : (PySem.W.clsIn K D).isSome = true := by
    obtain ⟨cd, hc, _⟩ := PySem.W.any_some T.hd
    rw [hc] <;> rfl
  exact PySem.W.kitx_exc hcl T.hg T.hk T.hs T.ha T.hn T.ht T.hm
theorem call_isx : CallR X (.builtin "isinstance") (rIsx X) := by
  intro pins s σ H xs us Q I r h
  obtain ⟨a, dd, D, oe, fv, t, u, b, e1, hx, hc, hd, hf, ha, T, k, e, q⟩ := h
  subst e1
  obtain ⟨u1, u2, e2, r1, r2⟩ := vals2 r
  subst e2
  cases k.eq r2
  obtain rfl : u1 = Value.ref a := r1
  obtain ⟨od, J, _⟩ := exc_inst I hx hc hd hf ha
  exact PySem.W.kia_one (exc_kit T) I.kIn J e (fun z => nomatch z) fun tk => ⟨.bl b, H, I.tok tk, rfl, q⟩
theorem call_isxT : CallR X (.builtin "isinstance") (rIsxT X) := by
  intro pins s σ H xs us Q I r h
  obtain ⟨a, dd, D, tp, oe, fv, cs, ws, b, e1, hT, k, hx, hc, hd, hf, ha, T, e, q⟩ := h
  subst e1
  obtain ⟨u1, u2, e2, r1, r2⟩ := vals2 r
  subst e2
  obtain rfl : u1 = Value.ref a := r1
  cases (show u2 = Value.ref tp from r2)
  obtain ⟨od, J, _⟩ := exc_inst I hx hc hd hf ha
  obtain ⟨_, its, rv, o, g1, g2, n, g3⟩ := (show ObjOk X.prog X.w H s.heap tp (.tup cs) from I.hok tp _ hT)
  cases ClsV.all k rv
  obtain ⟨oc, od', dt, sl⟩ := o
  simp only at g2 g3
  subst g2 g3
  exact PySem.W.kia_tup (exc_kit T) I.kIn J g1 e (fun z => nomatch z) fun tk => ⟨.bl b, H, I.tok tk, rfl, q⟩
/-- the answers by class -/
def gIsx (tab : List (Str × Bool)) (F : EV → M D) : EV → M D := fun ρ => do
  let x ← F ρ
  match x with
  | .exc c _ => match tab.lookup c with
    | some b => pure (.bl b)
    | none => M.bad
  | _ => M.bad
theorem lookup_mem {α β : Type} [BEq α] [LawfulBEq α] {x : α} {b : β} : ∀ {l : List (α × β)}, l.lookup x = some b → (x, b) ∈ l
  | (y, c) :: l, h => by
    rw [List.lookup_cons] at h
    cases q : x == y with
    | true => rw [q] at h; cases h; rw [eq_of_beq q]; exact List.mem_cons_self
    | false => rw [q] at h; exact List.mem_cons_of_mem _ (lookup_mem h)
theorem xIsx {tab : List (Str × Bool)} {t : Expr} {vc : V} {u : Value} (T : ∀ q ∈ tab, ExcC X.K (He.ga X.K q.1) ∧ PySem.W.kitOne X.K (.ref (He.ga X.K q.1)) u = some q.2) (ha : SE X W e F) (hT : PE X t (tC vc)) (hv : ClsV vc u) (hm : X.mg "isinstance" = none) (hg : Gl X "isinstance" := by rfl)
    (he : starEach (e :: [t]) X.env = (false, eval e X.env) :: starEach [t] X.env := by rfl) (he2 : starEach [t] X.env = (false, eval t X.env) :: starEach [] X.env := by rfl) (hpl : (backTo pos (starEach [t] X.env)).any (·.1) = false := by rfl) :
    SE X W (.Call (.Name "isinstance" p) [e, t] [] pos) (gIsx tab F) := by
  refine .imp (pe_callB call_isx hg hm (by decide +kernel) (pa_cons ha.pe (pa_cons hT pa_nil he2) he) (by decide) (by decide) he hpl) fun σ H Q ⟨st, S, ρ, m, cv, er, o⟩ => ?_
  refine TE.bind (G := fun x _ => match x with
    | .exc c _ => match tab.lookup c with
      | some b => pure (.bl b)
      | none => M.bad
    | _ => M.bad) cv er o fun v d m1 H1 c1 cv1 er1 r1 o1 => ?_
  cases r1 with
  | exc g1 g2 g3 g4 g5 rf =>
    rename_i a dd oe c fv fs
    have o2 : Out X.K st S H1 ((match tab.lookup c with
      | some b => pure (.bl b)
      | none => M.bad : M D) m1) Q (WE W σ) := o1
    cases q : tab.lookup c with
    | none => rw [q] at o2; exact o2.elim
    | some b =>
      rw [q] at o2
      obtain ⟨T1, T2⟩ := T _ (lookup_mem q)
      exact ⟨a, dd, _, oe, fv, vc, u, b, rfl, g1, g2, g3, g4, g5, T1, hv, T2, o2 _ H1 (Chg.refl _) cv1 (.bl b)⟩
  | _ => exact o1.elim
theorem xIsxT {tab : List (Str × Bool)} {ts : List Expr} {x1} {tpos : Pos} {vs : List V} {us : List Value} (T : ∀ q ∈ tab, ExcC X.K (He.ga X.K q.1) ∧ PySem.W.kitAny X.K (.ref (He.ga X.K q.1)) us = some q.2) (ha : SE X W e F) (hT : PA X ts (fun _ H Q => Q vs H)) (hv : Paired ClsV vs us) (hz : vs.length ≤ 1000) (hm : X.mg "isinstance" = none) (hg : Gl X "isinstance" := by rfl)
    (he : starEach (e :: [.Tuple ts x1 tpos]) X.env = (false, eval e X.env) :: starEach [.Tuple ts x1 tpos] X.env := by rfl) (he2 : starEach [.Tuple ts x1 tpos] X.env = (false, eval (.Tuple ts x1 tpos) X.env) :: starEach [] X.env := by rfl) (hpl : (backTo pos (starEach [.Tuple ts x1 tpos] X.env)).any (·.1) = false := by rfl) :
    SE X W (.Call (.Name "isinstance" p) [e, .Tuple ts x1 tpos] [] pos) (gIsx tab F) := by
  refine .imp (pe_callB call_isxT hg hm (by decide +kernel) (pa_cons ha.pe (pa_cons (pe_tup hT) pa_nil he2) he) (by decide) (by decide) he hpl) fun σ H Q ⟨st, S, ρ, m, cv, er, o⟩ => ?_
  refine TE.bind (G := fun x _ => match x with
    | .exc c _ => match tab.lookup c with
      | some b => pure (.bl b)
      | none => M.bad
    | _ => M.bad) cv er o fun v d m1 H1 c1 cv1 er1 r1 o1 => ?_
  refine ⟨by rw [sizeLine_eq]; omega, fun q hq => ?_⟩
  cases r1 with
  | exc g1 g2 g3 g4 g5 rf =>
    rename_i a dd oe c fv fs
    have o2 : Out X.K st S H1 ((match tab.lookup c with
      | some b => pure (.bl b)
      | none => M.bad : M D) m1) Q (WE W σ) := o1
    cases lk : tab.lookup c with
    | none => rw [lk] at o2; exact o2.elim
    | some b =>
      rw [lk] at o2
      obtain ⟨T1, T2⟩ := T _ (lookup_mem lk)
      exact ⟨a, dd, _, q, oe, fv, vs, us, b, rfl, upd_same, hv, g1, g2, g3, g4, by rw [upd_ne (ne_of_none g5 hq)]; exact g5, T1, T2, o2 _ _ (Chg.new hq) (cv1.new hq) (.bl b)⟩
  | _ => exact o1.elim
end
end Den
set_option Elab.async false
set_option linter.all false
set_option maxRecDepth 100000
set_option maxHeartbeats 4000000
namespace Den
open PySem PySem.Spec PyProof.Rows L2
/-- no exception within -/
def D.noXs : List D → Bool
  | [] => true
  | d :: ds => (match d with
    | .tup xs => D.noXs xs
    | .lst xs => D.noXs xs
    | .obj _ _ => false
    | .exc _ _ => false
    | _ => true) && D.noXs ds
def D.noX (d : D) : Bool := D.noXs [d]
theorem noXs_cons {d : D} {ds : List D} (h : D.noXs (d :: ds) = true) : D.noX d = true ∧ D.noXs ds = true := by
  unfold D.noX
  unfold D.noXs at h
  obtain ⟨h1, h2⟩ := Bool.and_eq_true_iff.mp h
  refine ⟨?_, h2⟩
  unfold D.noXs
  rw [h1]
  unfold D.noXs
  rfl
theorem noX_tup {ds : List D} (h : (D.tup ds).noX = true) : D.noXs ds = true := by
  unfold D.noX at h
  unfold D.noXs at h
  exact (Bool.and_eq_true_iff.mp h).1
theorem noX_lst {ds : List D} (h : (D.lst ds).noX = true) : D.noXs ds = true := by
  unfold D.noX at h
  unfold D.noXs at h
  exact (Bool.and_eq_true_iff.mp h).1
section
variable {K : PySem.W.Frag} {xi xj : XI} {S : Addr → Prop} {H : Hp}
mutual
theorem Rep.unx {st : Stx xi} : ∀ {v : V} {d : D}, d.noX = true → Rep K st S H v d → Rep K (⟨st.s⟩ : Stx xj) S H v d
  | _, _, _, .non => .non
  | _, _, _, .bl b => .bl b
  | _, _, _, .int i => .int i
  | _, _, _, .str x => .str x
  | _, _, f, .tup h r => .tup h (RepL.unx (noX_tup f) r)
  | _, _, f, .lst n h r => .lst n h (RepL.unx (noX_lst f) r)
  | _, _, f, .obj n h r => by unfold D.noX at f; unfold D.noXs at f; cases f
  | _, _, _, .scr h => .scr h
  | _, _, _, .sto h => .sto h
  | _, _, _, .rng h => .rng h
  | _, _, f, .exc _ _ _ _ _ _ => by unfold D.noX at f; unfold D.noXs at f; cases f
theorem RepL.unx {st : Stx xi} : ∀ {vs : List V} {ds : List D}, D.noXs ds = true → RepL K st S H vs ds → RepL K (⟨st.s⟩ : Stx xj) S H vs ds
  | _, _, _, .nil => .nil
  | _, _, f, .cons r t => .cons (Rep.unx (noXs_cons f).1 r) (RepL.unx (noXs_cons f).2 t)
end
mutual
theorem Rep.upx {st : Stx none} : ∀ {v : V} {d : D}, Rep K st S H v d → Rep K (⟨st.s⟩ : Stx xj) S H v d
  | _, _, .non => .non
  | _, _, .bl b => .bl b
  | _, _, .int i => .int i
  | _, _, .str x => .str x
  | _, _, .tup h r => .tup h (RepL.upx r)
  | _, _, .lst n h r => .lst n h (RepL.upx r)
  | _, _, .obj n h r => .obj n h (RepF.upx r)
  | _, _, .scr h => .scr h
  | _, _, .sto h => .sto h
  | _, _, .rng h => .rng h
  | _, _, .exc h _ _ _ _ _ => nomatch h
theorem RepL.upx {st : Stx none} : ∀ {vs : List V} {ds : List D}, RepL K st S H vs ds → RepL K (⟨st.s⟩ : Stx xj) S H vs ds
  | _, _, .nil => .nil
  | _, _, .cons r t => .cons (Rep.upx r) (RepL.upx t)
theorem RepF.upx {st : Stx none} : ∀ {vs : List (Str × V)} {ds : List (Str × D)}, RepF K st S H vs ds → RepF K (⟨st.s⟩ : Stx xj) S H vs ds
  | _, _, .nil => .nil
  | _, _, .cons r t => .cons (Rep.upx r) (RepF.upx t)
end
theorem Cov.cast {st : Stx xi} {m : SM} (c : Cov K st S H m) : Cov K (⟨st.s⟩ : Stx xj) S H m := ⟨c.dom, c.sto⟩
theorem Kept.cast {st : Stx xi} {H0 : Hp} {m : SM} (k : Kept K st S H0 H m) : Kept K (⟨st.s⟩ : Stx xj) S H0 H m := ⟨k.cov.cast, k.dom0, k.chg⟩
theorem EnvS.upx {st : Stx none} {H0 : Hp} {σ : L2.St} {ρ : SV} (e : EnvS K st S H0 H σ ρ) : EnvS K (⟨st.s⟩ : Stx xj) S H0 H σ ρ := by
  refine ⟨fun i d h => ?_, fun i xs h => ?_, fun i c fs h => ?_, e.dis, e.len⟩
  · obtain ⟨v, h1, h2⟩ := e.va i d h
    exact ⟨v, h1, h2.upx⟩
  · obtain ⟨a, vs, h1, h2, h3, h4⟩ := e.ow i xs h
    exact ⟨a, vs, h1, h2, h3, h4.upx⟩
  · obtain ⟨a, dx, fv, h1, h2, h3, h4⟩ := e.ob i c fs h
    exact ⟨a, dx, fv, h1, h2, h3, h4.upx⟩
end
def noOwns (ρ : SV) : Bool := ρ.all fun s => !s.isOwn
theorem noOwns_own {ρ : SV} {σ : L2.St} (h : noOwns ρ = true) : ∀ a, ¬ Own ρ σ a := fun a ⟨i, ⟨s, h1, h2⟩, _⟩ => by
  have := List.all_eq_true.mp h s (List.mem_of_getElem? h1)
  rw [h2] at this
  cases this
/-- the outcome of a suite that returns -/
def rtOf : Fl → M Fl
  | .rt d => do need d.noX; pure (.rt d)
  | _ => M.bad
def gTryAs (i : Nat) (tab : List (Str × Bool)) (B G : SV → M Fl) : SV → M Fl := fun ρ => do
  let r ← B ρ
  match r with
  | .ex c fs ρ1 => match tab.lookup c with
    | some true => do
      need (noOwns ρ1)
      let z ← G (ρ1.set i (.va (.exc c fs)))
      rtOf z
    | some false => pure (.ex c fs ρ1)
    | none => M.bad
  | r => pure r
section
variable {X : Cx} {W : WX} {x n : Str} {cv : Value} {body suite : List Stmt} {b0 : Stmt} {np pos pos' : Pos} {B G : SV → M Fl} {k : Nat}
theorem out_rtOf {st : Stx none} {S : Addr → Prop} {H0 H H1 : Hp} {σ σ1 : L2.St} {ρ ρ1 : SV} {x : M Fl} {m1 : SM} {Dn Dn' : Ends} {xj : XI} (hrt : Dn'.rt = Dn.rt)
    (o : OutS X.K W st S H0 H σ ρ ((x >>= rtOf) m1) Dn) : OutS X.K W0 (⟨st.s⟩ : Stx xj) S H0 H1 σ1 ρ1 (x m1) Dn' := by
  rw [bind_run] at o
  cases q : x m1 with
  | bad => rw [q] at o; exact o.elim
  | err c fs m => rw [q] at o; exact o.elim
  | ok f m =>
    rw [q] at o
    cases f with
    | rt d =>
      obtain ⟨hn, o2⟩ := out_need (P := fun r => OutS X.K W st S H0 H σ ρ r Dn) (fun z => z) o
      intro v H2 k2 r2
      rw [hrt]
      exact o2 v H2 k2.cast (Rep.unx (st := (⟨st.s⟩ : Stx xj)) (xj := none) hn r2)
    | nx _ => exact o.elim
    | rf _ => exact o.elim
    | bk _ => exact o.elim
    | ct _ => exact o.elim
    | ex _ _ _ => exact o.elim
end
end Den
set_option Elab.async false
set_option linter.all false
set_option maxRecDepth 100000
set_option maxHeartbeats 4000000
namespace Den
open PySem PySem.Spec PyProof.Rows L2
theorem fa_nil {α : Type} {P : α → Prop} : ∀ q ∈ ([] : List α), P q := fun _ h => nomatch h
theorem fa_cons {α : Type} {P : α → Prop} {a : α} {l : List α} (h : P a) (t : ∀ q ∈ l, P q) : ∀ q ∈ a :: l, P q := fun q hq => (List.mem_cons.mp hq).elim (fun e => e ▸ h) (t q)
theorem xfc_of {K : PySem.W.Frag} {D : Addr} (T : ExcC K D) : XfC K D := ⟨T.hg, T.hk, T.hs, T.hd⟩
section
variable {X : Cx} {W : WX} {pos p : Pos} {e : Expr} {F : EV → M D}
theorem pcNil : PA X [] (fun _ H Q => Q [] H) := pa_nil
theorem pcOwn {c : Str} {px : Pos} {ts : List Expr} {vs : List V} (hm : X.mg c = some (.ref (He.ga X.K c))) (h : PA X ts (fun _ H Q => Q vs H)) (hg : Gl X c := by rfl) (hd : (c == ("__debug__" : Str)) = false := by decide)
    (he : starEach (.Name c px :: ts) X.env = (false, eval (.Name c px) X.env) :: starEach ts X.env := by rfl) : PA X (.Name c px :: ts) (fun _ H Q => Q (.ref (He.ga X.K c) :: vs) H) := pa_cons (pe_glob (v := V.ref (He.ga X.K c)) hg hm rfl hd) h he
/-- isinstance(e, C), C an own class -/
theorem xIsxO {tab : List (Str × Bool)} {c : Str} {tp : Pos} (T : ∀ q ∈ tab, ExcC X.K (He.ga X.K q.1) ∧ PySem.W.kitOne X.K (.ref (He.ga X.K q.1)) (.ref (He.ga X.K c)) = some q.2) (ha : SE X W e F) (hm : X.mg "isinstance" = none) (hm2 : X.mg c = some (.ref (He.ga X.K c))) (hg : Gl X "isinstance" := by rfl) (hg2 : Gl X c := by rfl) (hd : (c == ("__debug__" : Str)) = false := by decide)
    (he : starEach (e :: [.Name c tp]) X.env = (false, eval e X.env) :: starEach [.Name c tp] X.env := by rfl) (he2 : starEach [.Name c tp] X.env = (false, eval (.Name c tp) X.env) :: starEach [] X.env := by rfl) (hpl : (backTo pos (starEach [.Name c tp] X.env)).any (·.1) = false := by rfl) :
    SE X W (.Call (.Name "isinstance" p) [e, .Name c tp] [] pos) (gIsx tab F) := xIsx T ha (pe_glob (v := V.ref (He.ga X.K c)) hg2 hm2 rfl hd) (.own _) hm hg he he2 hpl
/-- isinstance(e, ValueError) -/
theorem bt_ValueError : bootBuiltins "ValueError" = some (.type "ValueError") := by decide +kernel
theorem xIsxV {tab : List (Str × Bool)} {tp : Pos} (T : ∀ q ∈ tab, ExcC X.K (He.ga X.K q.1) ∧ PySem.W.kitOne X.K (.ref (He.ga X.K q.1)) (.type "ValueError") = some q.2) (ha : SE X W e F) (hm : X.mg "isinstance" = none) (hm2 : X.mg "ValueError" = none) (hg : Gl X "isinstance" := by rfl) (hg2 : Gl X "ValueError" := by rfl)
    (he : starEach (e :: [.Name "ValueError" tp]) X.env = (false, eval e X.env) :: starEach [.Name "ValueError" tp] X.env := by rfl) (he2 : starEach [.Name "ValueError" tp] X.env = (false, eval (.Name "ValueError" tp) X.env) :: starEach [] X.env := by rfl) (hpl : (backTo pos (starEach [.Name "ValueError" tp] X.env)).any (·.1) = false := by rfl) :
    SE X W (.Call (.Name "isinstance" p) [e, .Name "ValueError" tp] [] pos) (gIsx tab F) := xIsx T ha (pe_bltn (v := V.ty "ValueError") hg2 hm2 bt_ValueError rfl (by decide) (by decide)) (.ty "ValueError") hm hg he he2 hpl
end
theorem pdNil : Paired ClsV ([] : List V) ([] : List Value) := .nil
theorem pdOwn {K : PySem.W.Frag} {c : Str} {vs : List V} {us : List Value} (h : Paired ClsV vs us) : Paired ClsV (V.ref (He.ga K c) :: vs) (Value.ref (He.ga K c) :: us) := .cons (.own _) h
end Den
set_option Elab.async false
set_option linter.all false
set_option maxRecDepth 100000
set_option maxHeartbeats 4000000
namespace Den
open PySem PySem.Spec PyProof.Rows L2
structure CalF (P : Program) (w : World) (K : PySem.W.Frag) (mg : Str → Option Value) (base : Heap) (k : Nat) (x : Str) (params : Arguments) (body : List Stmt) (scope : Scope) (ps : List Str) (g : List D → M (List D)) : Prop where
  ex : ∃ (f : Addr) (fd : FuncData), mg x = some (.ref f) ∧ FunD K x x params body scope [] [] f fd ∧ Binds K fd ps [] ∧ FnOk P w K mg base (L2N.CX P w) k f fd ps (spFr K g)
def gRetO (z : Nat) : SV → M Fl := fun ρ => match ρ[z]? with
  | some (.ow xs) => pure (.rf xs)
  | _ => M.bad
section
variable {X : Cx} {W : WX} {pos p : Pos} {e : Expr} {es : List Expr} {A : EV → M (List D)} {L : EV → M (List D)} {x : Str} {k : Nat} {params : Arguments} {body : List Stmt} {scope : Scope} {ps : List Str} {g : List D → M (List D)}
theorem lCall (c : CalF X.prog X.w X.K X.mg X.base k x params body scope ps g) (tk : Takes X W) (hr : Room k X.A) (ha : SA X W (e :: es) A) (hg : Gl X x := by rfl)
    (hdb : (x == ("__debug__" : Str)) = false := by decide) (he : starEach (e :: es) X.env = (false, eval e X.env) :: starEach es X.env := by rfl) (hpl : (backTo pos (starEach es X.env)).any (·.1) = false := by rfl) :
    SF X W (.Call (.Name x p) (e :: es) [] pos) (lG g A) := by
  obtain ⟨f, fd, h1, h2, h3, h4⟩ := c.ex
  refine .imp (pe_callS (E := WE W) h4 hr hg h1 h2.kp h3 (fun σ => passAt tk σ) ha.pa hdb he hpl) fun σ H Q h => ?_
  rw [xi_room hr] at h ⊢
  obtain ⟨st, S, ρ, m, cv, er, o⟩ := h
  exact TAD.bindF (G := fun ds _ => g ds) cv er o fun vs ds m1 H1 c1 cv1 er1 r1 o1 => ⟨st, S, ds, m1, cv1, r1, o1⟩
theorem sRetO (z : Nat) {px : Pos} (hN : X.N[z]? = some x := by rfl) (hv : Vis X.env.scope x := by first | exact Or.inl rfl | exact Or.inr (Or.inl rfl) | exact Or.inr (Or.inr rfl)) (hd : (x == ("__debug__" : Str)) = false := by decide) (hcd : (x == ("__classdict__" : Str)) = false := by decide) :
    SS1 X W (.Return (some (.Name x px)) pos) (gRetO z) := by
  refine ⟨PS.imp (ps_ret (pv z hN hv hd hcd)) fun Dn σ H ⟨st, S, ρ, m, H0, k, e, o⟩ => ?_⟩
  unfold gRetO at o
  cases q : ρ[z]? with
  | none => rw [q] at o; exact o.elim
  | some s =>
    rw [q] at o
    cases s with
    | no => exact o.elim
    | va d => exact o.elim
    | ob c fs => exact o.elim
    | ow xs =>
      obtain ⟨a, vs, h1, h2, h3, h4⟩ := e.ow z xs q
      refine ⟨.ref a, h1, ?_⟩
      exact o a vs H h3 k h2 (h4.mono (B := noB) (Chg.refl H) (fun _ y => y.elim) fun b y => y.elim .inl fun w => .inr ⟨z, ⟨_, q, rfl⟩, by rw [w]; exact h1⟩)
end
end Den
set_option Elab.async false
set_option linter.all false
set_option maxRecDepth 100000
set_option maxHeartbeats 4000000
namespace Den
open PySem PySem.Spec PyProof.Rows L2
end Den
set_option Elab.async false
set_option linter.all false
set_option maxRecDepth 100000
set_option maxHeartbeats 4000000
namespace Den
open PySem PySem.Spec PyProof.Rows L2
structure FnX (P : Program) (w : World) (K : PySem.W.Frag) (mg : Str → Option Value) (base : Heap) (k : Nat) (f : Addr) (fd : FuncData) (ps : List Str) (sp : Addr × Obj → Sp) : Prop where
  len : ∀ p vs H Q E, sp p vs H Q E → vs.length = ps.length
  run : ∀ (p : Addr × Obj) (A : Around) (outer : List Env) (s : Shared) (H : Hp) (args : Args) (us : List Value) (vs : List V) (Q : VK) (E : XK), L2H.RoomH k A → L2H.Hot1 A p → L2H.PinOk outer H s p → L2.Env0 P w K mg base A outer s H →
    BindsTo s fd args (ps.zip us) → Vals vs us → sp p vs H Q E → codeAny (model P w) A (.call (.ref f) args) (CR (L2N.CX P w) outer P w H s Q E) s
/-- the handled exception stands first -/
structure Hd1 (X : Cx) (p : Addr × Obj) : Prop where
  hot : L2H.Hot1 X.A p
  pin : X.pn.head? = some p
theorem Hd1.xi {X : Cx} {p : Addr × Obj} (h : Hd1 X p) : X.xi = some p := by
  unfold L2.Cx.xi
  rw [h.hot.1]
  exact h.pin
theorem Hd1.mem {X : Cx} {p : Addr × Obj} (h : Hd1 X p) : p ∈ X.pn := List.mem_of_mem_head? h.pin
theorem Hd1.suite {X : Cx} {a : Addr} {oe : Obj} {pn : List (Addr × Obj)} {cls : Value} {d : Option Addr} (hz : L2N.Zn cls d oe) (hf : ∃ vs, oe.data = .fields vs) : Hd1 (X.suite a ((a, oe) :: pn)) (a, oe) := by
  obtain ⟨vs, hv⟩ := hf
  exact ⟨⟨rfl, vs, hv, hz.2.2 vs hv⟩, rfl⟩
section
variable {P : Program} {w : World} {K : PySem.W.Frag} {mg : Str → Option Value} {base : Heap} {x qual : Str} {params : Arguments} {body : List Stmt} {scope : Scope} {f : Addr} {fd : FuncData} {N ps : List Str} {k : Nat}
abbrev cxX (P : Program) (w : World) (K : PySem.W.Frag) (mg : Str → Option Value) (base : Heap) (N : List Str) (qual : Str) (scope : Scope) (f : Addr) (cd : Value) (A : Around) (outer : List Env) (s : Shared) (H : Hp) (E : XK) (p : Addr × Obj) : Cx := L2H.cxH (L2N.CX P w) P w K mg base N qual scope f cd A outer s H E p
theorem hd_cxX {cd : Value} {A : Around} {outer : List Env} {s : Shared} {H : Hp} {E : XK} {p : Addr × Obj} (h : L2H.Hot1 A p) : Hd1 (cxX P w K mg base N qual scope f cd A outer s H E p) p := ⟨⟨h.1, h.2⟩, rfl⟩
theorem fn_x {sp : Addr × Obj → Sp} (F : FunD K x qual params body scope [] [] f fd) (Sc : FnScope N ps scope) (len : ∀ p vs H Q E, sp p vs H Q E → vs.length = ps.length)
    (hb : ∀ (p : Addr × Obj) (cdv : Value) (A : Around) (outer : List Env) (s : Shared) (H : Hp) (vs : List V) (Q : VK) (E : XK), L2H.Hot1 A p → L2H.RoomH k (A.deeper (envOfC qual scope s.heap.objs.size f cdv)) → sp p vs H Q E →
      ∃ t, PSs (cxX P w K mg base N qual scope f cdv A outer s H E p) body t ∧ t { nx := fun _ H' => Q .non H', rt := Q } (L2.start N vs) H) : FnX P w K mg base (k + 1) f fd ps sp := by
  obtain ⟨oc, od, dV, kV, doc, pm, an, cdv, ct, osl, efd, lk, hcd, _, _⟩ := F.ex
  subst efd
  refine ⟨len, ?_⟩
  intro p A outer s H args us vs Q E hr hot hpin e0 bd rv hsp
  have ll := len _ _ _ _ _ hsp
  have up : ∀ b o, base.get? b = some o → s.heap.get? b = some o := fun b o z => (e0.bs b o z).1
  have kin : K.In s.heap := e0.mod.kin.keeps up
  have cells_ : ∀ y ∈ ps.zip us, scope.names.lookup y.1 = some .local ∨ (scope.names.lookup y.1 = some .cell ∧ ((cellsFrom (s.heap.objs.size + 1) scope.names []).lookup y.1).isSome = true) := by
    rintro ⟨n, v⟩ hy
    exact (Sc.par n (List.of_mem_zip hy).1).imp id fun q => ⟨q, PySem.W.cellsFrom_some _ _ _ (.inl q)⟩
  have rec_ := PySem.W.codeRec_of kin hcd
  apply codeAny_call_function hr.depth (kin _ _ lk) rfl Sc.co Sc.gen rfl rec_
  apply bd
  apply wpAny_newFunctionEnv_cells Sc.kind cells_
  intro env he s1 inC
  subst he
  refine ⟨(e0.mod.nolimit.keeps up).keeps inC.toInCall.keep, ?_⟩
  apply codeAny_func
  obtain ⟨t, ht, hq⟩ := hb p cdv A outer s H vs Q E hot (hr.deeper _) hsp
  have J := L2H.inv_startH (CX := L2N.CX P w) (E := E) Sc hpin e0 ll rv inC
  refine wpAny_mono (ht.run [] s1 _ H _ J hq) ?_ (fun _ _ z => z)
  intro fl s2 z
  cases fl with
  | brk => obtain ⟨_, _, _, q⟩ := z; exact q.elim
  | cont => obtain ⟨_, _, _, q⟩ := z; exact q.elim
  | next =>
    obtain ⟨σ2, H2, J2, q⟩ := z
    exact ⟨.non, H2, J2.os, J2.bare, J2.base, J2.hok, rfl, q⟩
  | ret u =>
    obtain ⟨v2, σ2, H2, J2, r2, q⟩ := z
    exact ⟨v2, H2, J2.os, J2.bare, J2.base, J2.hok, r2, q⟩
/-- such a def by its function -/
def spX (K : PySem.W.Frag) (g : List D → M D) (p : Addr × Obj) : Sp := fun vs H Q E => ∃ (st : Stx (some p)) (S : Addr → Prop) (ds : List D) (m : SM), Cov K st S H m ∧ RepL K st S H vs ds ∧ Out K st S H (g ds m) Q E
end
section
variable {X : Cx} {W : WX} {k : Nat} {f : Addr} {fd : FuncData} {ps : List Str} {p : Addr × Obj} {pins : List (Addr × Obj)} {σ : L2.St} {H : Hp} {s : Shared} {Q : VK} {us : List Value} {vs : List V}
theorem run_x {sp : Addr × Obj → Sp} (Fn : FnX X.prog X.w X.K X.mg X.base k f fd ps sp) (tk : Takes X W) (hd : Hd1 X p) (hr : L2H.RoomH k X.A) (hb : Binds X.K fd ps [])
    (I : L2.Inv X pins σ H s) (r : Vals vs us) (h : sp p vs H Q (WE W σ)) : wpAny (model X.prog X.w) X.A (call (.ref f) us) (EP X pins σ Q) X.xe s := by
  have hl : us.length = ps.length := r.length.symm.trans (Fn.len _ _ _ _ _ h)
  have bd := hb s us I.kIn (by simpa using hl)
  rw [List.append_nil] at bd
  obtain ⟨g1, g2, g3, g4, g5⟩ := I.pin p (List.mem_append_left _ hd.mem)
  have pin : L2H.PinOk X.stack H s p := ⟨g1, g2, fun z => (List.mem_cons.mp (I.stkSub p.1 z)).elim g3 g4, g5⟩
  apply wpAny_call
  refine codeAny_mono (Fn.run p X.A X.stack s H ⟨us, []⟩ us vs Q (WE W σ) hr hd.hot pin I.env0 bd r h) ?_
  intro res s' z
  match res, z with
  | .error ev, z => exact passAt tk σ pins H s ev s' I z
  | .ok (.ret u), z => exact I.after z
  | .ok .next, z => exact z.elim
  | .ok .brk, z => exact z.elim
  | .ok .cont, z => exact z.elim
end
/-- a def of the law, called there -/
structure CalX (P : Program) (w : World) (K : PySem.W.Frag) (mg : Str → Option Value) (base : Heap) (k : Nat) (x : Str) (params : Arguments) (body : List Stmt) (scope : Scope) (ps : List Str) (g : List D → M D) : Prop where
  ex : ∃ (f : Addr) (fd : FuncData), mg x = some (.ref f) ∧ FunD K x x params body scope [] [] f fd ∧ Binds K fd ps [] ∧ FnX P w K mg base k f fd ps (spX K g)
section
variable {X : Cx} {W : WX} {pos q : Pos} {e : Expr} {es : List Expr} {A : EV → M (List D)} {x : Str} {k : Nat} {params : Arguments} {body : List Stmt} {scope : Scope} {ps : List Str} {g : List D → M D} {p : Addr × Obj}
theorem xCallX (c : CalX X.prog X.w X.K X.mg X.base k x params body scope ps g) (hd : Hd1 X p) (tk : Takes X W) (hr : L2H.RoomH k X.A) (ha : SA X W (e :: es) A) (hg : Gl X x := by rfl)
    (hdb : (x == ("__debug__" : Str)) = false := by decide) (he : starEach (e :: es) X.env = (false, eval e X.env) :: starEach es X.env := by rfl) (hpl : (backTo pos (starEach es X.env)).any (·.1) = false := by rfl) :
    SE X W (.Call (.Name x q) (e :: es) [] pos) (fL g A) := by
  obtain ⟨f, fd, h1, h2, h3, h4⟩ := c.ex
  constructor
  constructor
  intro pins s σ H Q I h0
  have hap := ha.pa
  rw [hd.xi] at h0 hap
  obtain ⟨st, S, ρ, m, cv, er, o⟩ := h0
  have key : TAD (some p) X.K W A σ H fun vs H1 => spX X.K g p vs H1 Q (WE W σ) := TAD.bind (G := fun ds _ => g ds) cv er o fun vs ds m1 H1 c1 cv1 er1 r1 o1 => ⟨st, S, ds, m1, cv1, r1, o1⟩
  apply wpAny_Call_Name_kw
  apply ld_glob I hg h1 _ hdb
  refine PySem.W.callWith_K (h₀ := X.base) I.ok.mod.kin h2.kp (thn (hap.run pos pins s σ H _ I key) ?_) he hpl
  rintro us s1 ⟨vs, H1, I1, r1, q1⟩
  exact ⟨I1.kIn, run_x h4 tk hd hr h3 I1 r1 q1⟩
end
end Den
set_option Elab.async false
set_option linter.all false
set_option maxRecDepth 100000
set_option maxHeartbeats 4000000
namespace Den
open PySem PySem.Spec PyProof.Rows L2
/-- the block's context, the handled exception noted -/
abbrev blkX (X : Cx) (p : Addr × Obj) (s : Shared) (H : Hp) (scope : Scope) (ce : Env) (fp : List Addr) : Cx := { X.blk s H scope ce fp with pn := [p] }
section
variable {X : Cx} {p : Addr × Obj} {pins : List (Addr × Obj)} {σ τ : L2.St} {H H' : Hp} {s s' s0 : Shared} {scope : Scope} {ce : Env} {fp : List Addr}
theorem Hd1.blk (h : Hd1 X p) : Hd1 (blkX X p s H scope ce fp) p := ⟨h.hot, rfl⟩
theorem Hd1.hotC (h : Hd1 X p) : L2H.HotC X := ⟨p, h.hot, h.mem⟩
/-- a block's state, with the exception noted -/
theorem inv_note (I : L2.Inv (X.blk s H scope ce fp) [] τ H' s') (g : s'.heap.get? p.1 = some p.2) (n : H' p.1 = none) (l : p.1 ≠ ce.locals) (f : p.1 ∉ frs X.stack) (d : ∀ v, p.2.data ≠ .cell v) : L2.Inv (blkX X p s H scope ce fp) [] τ H' s' where
  ok := { mod := I.ok.mod, kind := I.ok.kind, glob := I.ok.glob, blt := I.ok.blt, above := I.ok.above, inj := I.ok.inj, has := I.ok.has, cab := I.ok.cab, hd := I.ok.hd, frames := I.ok.frames, stk := I.ok.stk, exf := I.ok.exf, bs := I.ok.bs, bsz := I.ok.bsz, noex := I.ok.noex, exfs := I.ok.exfs, funs := I.ok.funs, frf := I.ok.frf }
  os := I.os
  bare := I.bare
  base := I.base
  loc := I.loc
  cell := I.cell
  free := I.free
  freeC := I.freeC
  hok := I.hok
  len := I.len
  pin := fun q hq => by
    rw [List.append_nil] at hq
    cases List.mem_singleton.mp hq
    exact ⟨g, n, l, f, d⟩
theorem lcx {Q : VK} {elt tg iter : Expr} {ifs : List Expr} {own : List (Str × Nat)} {pos pos' : Pos} {wi : L2.TI} {g : TG} {tt : L2.TT} {te : L2.TE} {Qf : Value → Shared → Prop} {use : Option (Value → Sem Unit)}
    (hd : Hd1 X p) (hN : X.N.Nodup) (I : L2.Inv X pins σ H s) (hi : L2H.PIH X tg iter wi) (ok : BlkOk X.N X.env.scope scope own)
    (hg : ∀ (s : Shared) (H : Hp) (C : Addr) (cl : List (Str × Addr)) (fp : List Addr), PG (blkX X p s H scope (compEnvC scope cl C X.env) fp) tg g)
    (ht : ∀ (s : Shared) (H : Hp) (C : Addr) (cl : List (Str × Addr)) (fp : List Addr), PTs (blkX X p s H scope (compEnvC scope cl C X.env) fp) ifs tt)
    (he : ∀ (s : Shared) (H : Hp) (C : Addr) (cl : List (Str × Addr)) (fp : List Addr), PE (blkX X p s H scope (compEnvC scope cl C X.env) fp) elt te) (hs : ∀ x, foldedSetIterable iter X.env x = pure x)
    (h : tLc wi g tt te (own.map (·.2)) σ H Q)
    (hR : ∀ D C s' m H', L2.Inv X pins σ H' s' → Q (.ref D) H' → s'.heap.Ns C m → FpOk X pins H' C → compPost (model X.prog X.w) X.A X.xe use Qf (.ref D) C (.ok .next) s') :
    wpAny (model X.prog X.w) X.A (comprehension (.ListComp elt [⟨tg, iter, ifs, 0⟩] scope pos) scope X.env pos' (newList []) false (eval iter X.env) use) Qf X.xe s := by
  have fr : ∀ y ∈ scope.names, y.2 = .free → ∃ c, X.env.cells.lookup y.1 = some c := fun y hy e => I.ok.has _ ((ok.free y hy e).imp id id)
  refine wpAny_comprehension_free (use := use) rfl hs (closure_ok fr) ok.kind (fun y hy e => by rw [ok.uniq y hy, e]) (thn (hi.run pins s σ H _ I h) fun xv s1 hx => thn hx ?_)
  rintro itv s2 ⟨it, fp, tn, J, H2, e, I2, T, st2, f2, q⟩
  subst e
  refine wpAny_newObj_type (newEnv_comp ?_) (by show 0 ≤ sizeLine; decide)
  have low := Nat.le_refl s2.heap.objs.size
  obtain ⟨W, ⟨m0, w0⟩, turn⟩ := q _ (I2.hok.fresh low)
  generalize hD : s2.heap.objs.size = D at *
  generalize h3 : ({ s2 with heap := s2.heap.push { cls := .type "list", data := .seq ([] : List Value).toArray } } : Shared) = t3
  have e3 : t3.heap = s2.heap.push { cls := .type "list", data := .seq ([] : List Value).toArray } := by rw [← h3]
  have J3 : L2.Inv X pins σ (upd H2 D (.lst [])) t3 := by
    subst h3
    exact I2.laid (t' := s2.toks) (fun b o z => Heap.get?_push_of_some _ z) (Nat.le_of_eq hD) ⟨Nat.zero_le _, [], 0, .nil, by subst hD; exact Heap.get?_push_size _ rfl⟩
  have small : ∀ b ∈ fp, b < D := fun b hb => by
    obtain ⟨o, z, _⟩ := T.obj _ _ st2 b hb
    rw [← hD]
    exact Heap.lt_size z
  have big : D < t3.heap.objs.size := by rw [e3, Heap.size_push, hD]; exact Nat.lt_succ_self D
  have f3 : ∀ b ∈ fp, FpOk X pins (upd H2 D (.lst [])) b ∧ b < t3.heap.objs.size := fun b hb => by
    have z := small b hb
    exact ⟨⟨by rw [upd_ne (Nat.ne_of_lt z)]; exact (f2 b hb).1, (f2 b hb).2⟩, Nat.lt_trans z big⟩
  have st3 : tn 0 t3.heap := T.keep _ _ _ st2 fun b _ o z => by rw [e3]; exact Heap.get?_push_of_some _ z
  have J4 := block_start J3 ok hN f3
  obtain ⟨g1, g2, g3, g4, g5⟩ := J3.pin p (List.mem_append_left _ hd.mem)
  generalize hcl : cellsFrom (t3.heap.objs.size + 1) scope.names (cloFrom X.env.cells scope.names []) = cl at J4
  have pg := hg t3 (upd H2 D (.lst [])) t3.heap.objs.size cl fp
  have pt := ht t3 (upd H2 D (.lst [])) t3.heap.objs.size cl fp
  have pe := he t3 (upd H2 D (.lst [])) t3.heap.objs.size cl fp
  show codeAny _ _ (.compStart _ 0 (.ref it) (.ref D) (compEnvC scope cl t3.heap.objs.size X.env)) (compPost (model X.prog X.w) X.A X.xe use Qf (.ref D) t3.heap.objs.size) { t3 with heap := pushCells (t3.heap.push { cls := .type "dict", data := .dict #[] }) scope.names }
  have nfp : ∀ b ∈ fp, (upd H2 D (.lst [])) b = none := fun b hb => (f3 b hb).1.1
  have eL : (compEnvC scope cl t3.heap.objs.size X.env).locals = t3.heap.objs.size := rfl
  generalize compEnvC scope cl t3.heap.objs.size X.env = ce at *
  generalize upd H2 D (.lst []) = H3 at *
  generalize h4 : ({ t3 with heap := pushCells (t3.heap.push { cls := .type "dict", data := .dict #[] }) scope.names } : Shared) = t4 at *
  have grow : ∀ b o, t3.heap.get? b = some o → t4.heap.get? b = some o := fun b o z => by
    subst h4
    exact pushCells_keeps _ _ _ _ (Heap.get?_push_of_some _ z)
  have npf : p.1 ∉ frs X.stack := fun z => (List.mem_cons.mp (J3.stkSub p.1 z)).elim g3 g4
  have J5 : L2.Inv (blkX X p t3 H3 scope ce fp) [] (wipe σ (own.map (·.2))) H3 t4 := inv_note J4 (grow _ _ g1) g2 (by rw [eL]; exact Nat.ne_of_lt (Heap.lt_size g1)) npf g5
  have st4 : tn 0 t4.heap := T.keep _ _ _ st3 fun b _ o z => grow b o z
  have hot : L2H.HotC (blkX X p t3 H3 scope ce fp) := hd.blk.hotC
  have noP : ∀ b ∈ fp, p.1 ≠ b := fun b hb => (f3 b hb).1.2.2.2.2.2 p (List.mem_append_left _ hd.mem)
  have stat : ∀ {τ : L2.St} {H' : Hp} {s' : Shared}, L2.Inv (blkX X p t3 H3 scope ce fp) [] τ H' s' → (∀ b ∈ fp, H' b = none) → ∀ b ∈ fp, FpOk (blkX X p t3 H3 scope ce fp) [] H' b := fun {τ H' s'} J n b hb => by
    refine ⟨n b hb, (J.ok.exf b hb).1, J.ok.exfs b hb, .inl hb, fun x c z => (J.ok.exf b hb).2 x c z, fun q hq => ?_⟩
    rw [List.append_nil] at hq
    cases List.mem_singleton.mp hq
    exact noP b hb
  have loop : codeAny (model X.prog X.w) X.A (.compLoop (.ListComp elt [⟨tg, iter, ifs, 0⟩] scope pos) 0 (.ref it) (.ref D) ce) (compPost (model X.prog X.w) X.A X.xe use Qf (.ref D) t3.heap.objs.size) t4 := by
    refine compLoop_any (fun n s' => ∃ i H', L2.Inv (blkX X p t3 H3 scope ce fp) [] (wipe σ (own.map (·.2))) H' s' ∧ tn i s'.heap ∧ (∀ b ∈ fp, H' b = none) ∧ W i n H') ?_ m0 ⟨0, H3, J5, st4, nfp, w0⟩
    rintro n s5 ⟨i, H5, J6, st5, n5, w5⟩
    rcases turn i n H5 w5 with ⟨stop, qq⟩ | ⟨go, Nx, hNx, step⟩
    · refine thnF (T.done (blkX X p t3 H3 scope ce fp) rfl rfl rfl hot i [] s5 _ H5 (fun _ _ => False) J6 (stat J6 n5) st5 stop) ?_
      rintro r s6 ⟨er, J7⟩
      subst er
      have J8 : L2.Inv X pins σ H5 s6 := J3.call' (ch := fp) J7.os J7.base J7.hok J7.bare fun b hb => by
        obtain ⟨_, a2, a3, a4, a5, a6⟩ := (f3 b hb).1
        exact ⟨a4, a2, a5, a6⟩
      obtain ⟨mm, hn, _⟩ := J7.loc
      have nC : H5 t3.heap.objs.size = none := by
        have z : H5 ce.locals = none := J7.free
        rwa [eL] at z
      have hn' : s6.heap.Ns ce.locals mm := hn
      rw [eL] at hn'
      exact hR D t3.heap.objs.size s6 mm H5 J8 qq hn' (J3.fpOk (Nat.le_refl _) nC)
    · refine thnF (T.item (blkX X p t3 H3 scope ce fp) rfl rfl rfl hot i [] s5 _ H5 (fun _ _ => False) J6 (stat J6 n5) st5 go) ?_
      rintro r s6 ⟨u, er, h6⟩
      subst er
      refine thnF h6 ?_
      rintro _ s7 ⟨x, H7, J7, r7, y7, st7, n7⟩
      have J7' := J7.pinned (stat J7 n7) (T.obj _ _ st7)
      refine thnF (pg.run _ s7 _ H7 x u _ J7' r7 (step x H7 y7)) ?_
      rintro _ s8 ⟨τ8, H8, J8, hw8, q8⟩
      refine thnF (pt.run _ s8 τ8 H8 _ J8 q8) ?_
      rintro b s9 ⟨H9, J9, q9⟩
      have next : ∀ {s' : Shared} {H' : Hp}, L2.Inv (blkX X p t3 H3 scope ce fp) ([] ++ pinsAt fp s7.heap) τ8 H' s' → Nx H' → ∃ m, m < n ∧ ∃ i H', L2.Inv (blkX X p t3 H3 scope ce fp) [] (wipe σ (own.map (·.2))) H' s' ∧ tn i s'.heap ∧ (∀ b ∈ fp, H' b = none) ∧ W i m H' := fun {s' H'} J nx => by
        obtain ⟨m', hm, w'⟩ := hNx H' nx
        have pinned : ∀ b ∈ fp, ∀ o, s7.heap.get? b = some o → s'.heap.get? b = some o ∧ H' b = none := fun b hb o z => by
          obtain ⟨z1, z2, _⟩ := J.pin (b, o) (List.mem_append_right _ (List.mem_append_right _ (mem_pinsAt hb z)))
          exact ⟨z1, z2⟩
        have hl : (wipe σ (own.map (·.2))).length = τ8.length := by rw [← hw8, wipe_length]
        refine ⟨m', hm, i + 1, H', (J.unpinned (pins := [])).weak hl (fun j v z => ?_), T.keep _ _ _ st7 fun b hb o z => (pinned b hb o z).1, fun b hb => ?_, w'⟩
        · rw [← hw8] at z
          exact (wipe_some z).1
        · obtain ⟨o, z, _⟩ := T.obj _ _ st7 b hb
          exact (pinned b hb o z).2
      cases b with
      | false =>
        rw [if_neg Bool.false_ne_true] at q9 ⊢
        exact next J9 q9
      | true =>
        rw [if_pos rfl] at q9 ⊢
        refine thnF (pe.run _ s9 τ8 H9 _ J9 q9) ?_
        rintro z s10 ⟨yv, H10, J10, r10, acc, aD, aZ, nx⟩
        exact app_ok (X := blkX X p t3 H3 scope ce fp) J10 aD aZ r10 fun s11 J11 => next J11 nx
  exact codeAny_compStart_list loop (T.self X.A 0 _ _ _ st4 loop)
end
end Den
set_option Elab.async false
set_option linter.all false
set_option maxRecDepth 100000
set_option maxHeartbeats 4000000
namespace Den
open PySem PySem.Spec PyProof.Rows L2
section
variable {X : Cx} {p : Addr × Obj} {W : WX} {pos : Pos} {tg : Expr}
theorem pe_lcx {elt iter : Expr} {ifs : List Expr} {scope : Scope} {own : List (Str × Nat)} {wi : L2.TI} {g : TG} {tt : L2.TT} {te : L2.TE} (hd : Hd1 X p) (hN : X.N.Nodup) (hi : L2H.PIH X tg iter wi) (ok : BlkOk X.N X.env.scope scope own)
    (hg : ∀ (s : Shared) (H : Hp) (C : Addr) (cl : List (Str × Addr)) (fp : List Addr), PG (blkX X p s H scope (compEnvC scope cl C X.env) fp) tg g)
    (ht : ∀ (s : Shared) (H : Hp) (C : Addr) (cl : List (Str × Addr)) (fp : List Addr), PTs (blkX X p s H scope (compEnvC scope cl C X.env) fp) ifs tt)
    (he : ∀ (s : Shared) (H : Hp) (C : Addr) (cl : List (Str × Addr)) (fp : List Addr), PE (blkX X p s H scope (compEnvC scope cl C X.env) fp) elt te) (hs : ∀ x, foldedSetIterable iter X.env x = pure x) :
    PE X (.ListComp elt [⟨tg, iter, ifs, 0⟩] scope pos) (tLc wi g tt te (own.map (·.2))) := by
  constructor
  intro pins s σ H Q I h
  rw [eval_ListComp]
  apply lcx hd hN I hi ok hg ht he hs h
  intro D C s' m H' J q hn f
  refine ⟨m, hn, fun h2 sb => ?_⟩
  obtain ⟨f0, f1, f2, f3, f4, f5⟩ := f
  exact ⟨.ref D, H', J.turned (t' := s'.toks) (fun b o hb e => (sb.2 b hb).trans e) f0 f1 f3 f4 f5, rfl, q⟩
/-- range(a), walked there -/
structure SIX (X : Cx) (W : WX) (tg e : Expr) (I : EV → M (List D)) : Prop where
  pi : L2H.PIH X tg e (TID false X.xi X.K W I)
theorem PIH.imp {e : Expr} {t t' : L2.TI} (h : L2H.PIH X tg e t) (i : ∀ σ H Q, t' σ H Q → t σ H Q) : L2H.PIH X tg e t' := ⟨fun pins s σ H Q I q => h.run pins s σ H Q I (i σ H Q q)⟩
theorem jR1X {a : Expr} {q : Pos} {A : EV → M (List D)} (hm : X.mg "range" = none) (ha : SA X W [a] A) (hg : Gl X "range" := by rfl) (hs : starEach [a] X.env = [(false, eval a X.env)] := by rfl) : SIX X W tg (.Call (.Name "range" q) [a] [] pos) (iRan 1 A) := by
  refine ⟨PIH.imp (L2H.pi_range1H hg hm ha.pa hs) fun σ H Q ⟨st, S, ρ, m, cv, er, o⟩ => ?_⟩
  refine TAD.bindI (G := fun ds => do need (decide (ds.length = 1)); dRange ds) cv er o fun vs ds m1 H1 c1 cv1 er1 r1 o1 => ?_
  obtain ⟨hl, o2⟩ := out_need (P := fun r => OutI false X.K st S H1 r Q (WE W σ)) (fun z => z) o1
  clear o1
  have hl := of_decide_eq_true hl
  match ds, hl with
  | [d], _ =>
    obtain ⟨v, rfl, rv⟩ := repL1 r1
    cases d with
    | int j =>
      obtain ⟨h, o3⟩ := out_need (P := fun r => OutI false X.K st S H1 r Q (WE W σ)) (fun z => z) o2
      cases rv
      have h := of_decide_eq_true h
      refine ⟨j, rfl, h.1, h.2, o3 _ [] [] H1 (Chg.refl _) cv1 .nil ?_⟩
      have e : ((List.range j.toNat).map fun i : Nat => D.int (i : Int)) = (List.range j.toNat).map fun i : Nat => D.int (0 + (i : Int)) := by simp
      rw [e]
      exact walkD_range
    | _ => exact o2.elim
/-- [E for x in range(..) if C], there -/
theorem lLcX (i : Nat) {x : Str} {px : Pos} {elt iter : Expr} {ifs : List Expr} {scope : Scope} {I : EV → M (List D)} {C : EV → M Bool} {E : EV → M D} (hd : Hd1 X p) (hN : X.N.Nodup) (hI : SIX X W (.Name x px) iter I)
    (ht : ∀ (s : Shared) (H : Hp) (C' : Addr) (cl : List (Str × Addr)) (fp : List Addr), STs (blkX X p s H scope (compEnvC scope cl C' X.env) fp) W0 ifs C)
    (he : ∀ (s : Shared) (H : Hp) (C' : Addr) (cl : List (Str × Addr)) (fp : List Addr), SE (blkX X p s H scope (compEnvC scope cl C' X.env) fp) W0 elt E)
    (ok : blkC X.N X.env.scope scope [(x, i)] = true := by kernel_rfl) (hx : X.N[i]? = some x := by rfl)
    (hg : ∀ (s : Shared) (H : Hp) (D : Addr) (cl : List (Str × Addr)) (fp : List Addr), PG (blkX X p s H scope (compEnvC scope cl D X.env) fp) (.Name x px) (gName i) := by
      first | exact fun _ _ _ _ _ => pg_name (by assumption) rfl (Or.inl rfl) (Or.inr rfl) | exact fun _ _ _ _ _ => pg_name (by assumption) rfl (Or.inr rfl) (Or.inl rfl))
    (hs : ∀ x, foldedSetIterable iter X.env x = pure x := by intro _; rfl) :
    SF X W (.ListComp elt [⟨.Name x px, iter, ifs, 0⟩] scope pos) (compV (eName i) I C E) := by
  refine ⟨⟨fun pins s σ H Q Iv q => ?_⟩⟩
  have e0 := hd.xi
  have hip := hI.pi
  rw [e0] at q hip
  refine (pe_lcx (own := [(x, i)]) (tt := TT (some p) X.K W0 C) (te := TE (some p) X.K W0 E) (g := gName i) hd hN hip (blkOk_by ok) hg ?_ ?_ hs).run pins s σ H Q Iv ?_
  · intro s H C' cl fp
    have z := (ht s H C' cl fp).pt
    rw [(Hd1.blk hd).xi] at z
    exact z
  · intro s H C' cl fp
    have z := (he s H C' cl fp).pe
    rw [(Hd1.blk hd).xi] at z
    exact z
  · exact lc_imp (vs := [i]) (by rw [Iv.len]; simpa using lt_of_at hx) bndE_name q
end
section
variable {prog : Program} {w : World} {A : Around} {E : Value → Shared → Prop} {s : Shared}
theorem list_end_hot {it l x1 : Addr} {i : Nat} {items : Array Value} {Q : Option Value → Shared → Prop} (hot : HotX.HotAt A x1 s.heap) (hit : s.heap.IsListIter it l i) (hl : s.heap.IsList l items) (hx : items[i]? = none) (ne : x1 ≠ it)
    (hQ : ∀ h', (∀ b o, b ≠ it → s.heap.get? b = some o → h'.get? b = some o) → Q none { s with heap := h' }) : wpAny (model prog w) A (pyNext (.ref it)) Q E s := by
  obtain ⟨hh, o1, vs1, g1, d1, c1⟩ := hot
  obtain ⟨o, ho, hc, hd⟩ := id hit
  obtain ⟨ol, hol, _, nl, hdl⟩ := hl
  unfold pyNext
  apply wpAny_bind
  apply wpAny_attempt
  apply wpAny_callSpecial?_slot (name := Str.ofString "__next__") hit.typeIs slot_listiter_next
  refine wpAny_call_entry slot_listiter_next hit.typeIs entry_listiter_next ?_ (args_listiter_next _)
  show wpAny _ _ (field (.ref it) 0 >>= _) _ _ s
  apply wpAny_bind
  refine wpAny_field ho hd (x := .ref l) rfl ?_
  show wpAny _ _ (if (Value.ref l == Value.none) = true then _ else _) _ _ s
  rw [if_neg (fun z => by cases z)]
  show wpAny _ _ (field (.ref it) 1 >>= _) _ _ s
  apply wpAny_bind
  refine wpAny_field ho hd (x := .int i 0) rfl ?_
  show wpAny _ _ (seqItems? (.ref l) >>= _) _ _ s
  apply wpAny_bind
  apply wpAny_seqItems hol hdl
  simp only [Int.toNat_natCast, hx]
  apply wpAny_bind
  apply wpAny_rule
  apply wpAny_bind
  refine wpAny_setField ho hd (by simp) ?_
  show wpAny _ _ (newExc (.type "StopIteration") [] >>= _) _ _ _
  apply wpAny_bind
  simp only [newExc, newTuple]
  refine wpAny_bind (wpAny_newObj_type ?_ (by size_fits))
  refine wpAny_bind (m := firstArgMember _ _) (wpAny_of_eq (a := Value.none) (by first | rfl | (simp only [firstArgMember]; rfl)) ?_)
  refine wpAny_newObj_type ?_ (by size_fits)
  have k1 : (s.heap.update it (Obj.mapFields (·.setIfInBounds 0 .none))).get? x1 = some o1 := by rw [Heap.get?_update_other _ _ (Ne.symm ne)]; exact g1
  have kx := Heap.get?_push_of_some { cls := .type "tuple", data := .seq ([] : List Value).toArray } k1
  refine HotX.raiseNew_hot ⟨hh, o1, vs1, Heap.get?_push_of_some _ kx, d1, c1⟩ (Nat.ne_of_lt (Heap.lt_size kx)) (Heap.get?_push_size _ rfl) rfl (by first | (simp; done) | (simp; omega)) ?_
  refine wpAny_bind (wpAny_isInstance (T := "StopIteration") (b := true) ⟨_, Heap.get?_update_self _ (Heap.get?_push_size _ rfl) rfl, rfl⟩ isSubtype_stop ?_)
  refine wpAny_pure (hQ _ fun b o hb e => ?_)
  have k2 : (s.heap.update it (Obj.mapFields (·.setIfInBounds 0 .none))).get? b = some o := by rw [Heap.get?_update_other _ _ (Ne.symm hb)]; exact e
  have k3 := Heap.get?_push_of_some { cls := .type "tuple", data := .seq ([] : List Value).toArray } k2
  rw [Heap.get?_update_other _ _ (Nat.ne_of_gt (Heap.lt_size k3))]
  exact Heap.get?_push_of_some _ k3
end
end Den
set_option Elab.async false
set_option linter.all false
set_option maxRecDepth 100000
set_option maxHeartbeats 4000000
namespace Den
open PySem PySem.Spec PyProof.Rows L2
theorem walks_hot {prog : Program} {w : World} {A : Around} (x1 I ax : Addr) (hne : ax ≠ I) (n1 : x1 ≠ I) (items : Array Value) :
    Walks prog w A I [I, ax, x1] [I] items.size (fun i v => items[i]? = some v) (fun i h => HotX.HotAt A x1 h ∧ h.IsListIter I ax i ∧ h.IsList ax items) where
  sub := fun b hb => by simp at hb; simp [hb]
  frame := fun _ _ _ st hk => by
    obtain ⟨⟨hh, o1, vs1, g1, d1, c1⟩, s1, s2⟩ := st
    exact ⟨⟨hh, o1, vs1, hk x1 (by simp) _ g1, d1, c1⟩, s1.at fun o e => hk I (by simp) o e, s2.at fun o e => hk ax (by simp) o e⟩
  item := fun i s Q E hi st hQ => by
    obtain ⟨⟨hh, o1, vs1, g1, d1, c1⟩, s1, s2⟩ := st
    refine wpAny_pyNext_list_item s1 s2 (x := items[i]) (by simp [hi]) fun h' hit' hs' => ?_
    exact hQ _ h' s.toks (by simp [hi]) ⟨⟨hh, o1, vs1, hs'.extBut x1 o1 n1 g1, d1, c1⟩, hit', s2.extBut hs'.extBut hne⟩ fun b o hb e => hs'.extBut b o (fun h => hb (by simp [h])) e
  done := fun s Q E st hQ => list_end_hot st.1 st.2.1 st.2.2 (by simp) n1 fun h' he' => hQ h' s.toks fun b o hb e => he' b o (fun h => hb (by simp [h])) e
  self := fun _ _ _ _ st hQ => wpAny_pyIter_listiter st.2.1 hQ
theorem Hd1.at {X : Cx} {p : Addr × Obj} {pins : List (Addr × Obj)} {σ : L2.St} {H : Hp} {s : Shared} (hd : Hd1 X p) (I : L2.Inv X pins σ H s) : HotX.HotAt X.A p.1 s.heap := by
  obtain ⟨h1, vs, h2, h3⟩ := hd.hot
  exact ⟨h1, p.2, vs, (I.pin p (List.mem_append_left _ hd.mem)).1, h2, h3⟩
theorem cr_all_hot {X : Cx} {p : Addr × Obj} (hd : Hd1 X p) : CallR X (.builtin "all") (rAll X.K) := by
  intro pins s σ H vs us Q I r h
  obtain ⟨a, bs, rfl, hs, q⟩ := h
  obtain ⟨its, rv, hl, _⟩ := I.list hs
  rw [Vals.ref1 r]
  have hb := rv.bls
  obtain ⟨hh, o1, vs1, g1, d1, c1⟩ := hd.at I
  refine call_all_walk (iter_any hl.isList fun s₂ e2 st hne => ?_)
  subst e2
  refine ⟨_, _, _, _, _, _, _, rfl, walks_hot (A := X.A.in1) p.1 _ a hne (Nat.ne_of_lt (Heap.lt_size g1)) its.toArray, ⟨⟨hh, o1, vs1, Heap.get?_push_of_some _ g1, d1, c1⟩, st⟩, truth_bools hb, fun h' tk hk => ?_⟩
  refine ⟨.bl _, H, I.kept fun b o eo => hk b o (fun hmem => ?_) (Heap.get?_push_of_some _ eo), ?_, q⟩
  · rcases List.mem_cons.mp hmem with e1 | hmem
    · exact absurd (e1 ▸ Heap.lt_size eo) (Nat.lt_irrefl _)
    · cases hmem
  · show Value.bool _ = Value.bool _
    rw [← L2.all_range, hb, List.size_toArray, List.length_map]
section
variable {X : Cx} {W : WX} {p : Addr × Obj} {pos q : Pos} {e : Expr} {es : List Expr} {A : EV → M (List D)}
theorem xAllX (hd : Hd1 X p) (hm : X.mg "all" = none) (ha : SA X W (e :: es) A) (hg : Gl X "all" := by rfl) (he : starEach (e :: es) X.env = (false, eval e X.env) :: starEach es X.env := by rfl) (hpl : (backTo pos (starEach es X.env)).any (·.1) = false := by rfl) :
    SE X W (.Call (.Name "all" q) (e :: es) [] pos) (fL dAll A) := se_callB dAll (cr_all_hot hd) vr_all hg hm bt_all ha (by decide) (by decide) he hpl
end
end Den
set_option Elab.async false
set_option linter.all false
set_option maxRecDepth 100000
set_option maxHeartbeats 4000000
namespace Den
open PySem PySem.Spec PyProof.Rows L2
theorem runF_ts {xi : Option (Addr × Obj)} {K : PySem.W.Frag} {N ps : List Str} {G : SV → M Fl} {st : Stx xi} {S : Addr → Prop} {H : Hp} {ds : List D} {m : SM} {vs : List V} {Q : VK} {E : XK}
    (cv : Cov K st S H m) (r : RepL K st S H vs ds) (o : Out K st S H (runF ps.length N.length G ds m) Q E) : TSD xi K (wE E) G { nx := fun _ H' => Q .non H', rt := Q } (L2.start N vs) H := by
  unfold runF at o
  by_cases h : ds.length = ps.length
  case neg => rw [if_neg h] at o; exact o.elim
  rw [if_pos h] at o
  have hl : vs.length = ps.length := r.length.trans h
  have noOwn : ∀ i a, ¬ OwnAt (ds.map .va ++ List.replicate (N.length - ps.length) .no) (L2.start N vs) i a := fun i a ⟨⟨s, h1, h2⟩, _⟩ => by
    have hm := List.mem_of_getElem? h1
    rcases List.mem_append.mp hm with hm | hm
    · obtain ⟨d, _, e⟩ := List.mem_map.mp hm
      rw [← e] at h2; cases h2
    · rw [(List.mem_replicate.mp hm).2] at h2; cases h2
  have low : ∀ (i : Nat) (sl : Sl), (ds.map Sl.va ++ List.replicate (N.length - ps.length) Sl.no)[i]? = some sl → (∃ d, ds[i]? = some d ∧ sl = .va d) ∨ sl = .no := fun i sl h1 => by
    by_cases hi : i < ds.length
    · rw [List.getElem?_append_left (by simpa using hi), List.getElem?_map] at h1
      obtain ⟨d, h2, h3⟩ := Option.map_eq_some_iff.mp h1
      exact .inl ⟨d, h2, h3.symm⟩
    · rw [List.getElem?_append_right (by simpa using hi)] at h1
      exact .inr (List.mem_replicate.mp (List.mem_of_getElem? h1)).2
  have kk : Kept K st S H H m := ⟨cv, cv.dom, Chg.refl H⟩
  have ee : EnvS K st S H H (L2.start N vs) (ds.map .va ++ List.replicate (N.length - ps.length) .no) := by
    refine ⟨fun i d h1 => ?_, fun i xs h1 => ?_, fun i c fs h1 => ?_, fun i j a oi => (noOwn i a oi).elim, ?_⟩
    · rcases low i _ h1 with ⟨d', h2, h3⟩ | h3
      · cases h3
        obtain ⟨v, g1, g2⟩ := r.get h2
        refine ⟨v, ?_, g2.mono (B := noB) (Chg.refl H) (fun _ z => z.elim) fun a z => z.elim id fun ⟨i, oi⟩ => (noOwn i a oi).elim⟩
        unfold L2.start
        rw [List.getElem?_append_left (by simpa using (List.getElem?_eq_some_iff.mp g1).1), List.getElem?_map, g1]; rfl
      · cases h3
    · rcases low i _ h1 with ⟨d', h2, h3⟩ | h3 <;> cases h3
    · rcases low i _ h1 with ⟨d', h2, h3⟩ | h3 <;> cases h3
    · unfold L2.start
      simp [hl, h]
  refine ⟨st, S, _, m, H, kk, ee, ?_⟩
  cases q : G (ds.map .va ++ List.replicate (N.length - ps.length) .no) m with
  | bad => rw [q] at o; exact o.elim
  | err c fs m1 => rw [q] at o; exact o.elim
  | ok f m1 =>
    rw [q] at o
    cases f with
    | nx ρ1 => exact fun σ1 H1 k1 e1 p1 => o .non H1 k1.chg k1.cov .non
    | rt d => exact fun v H1 k1 r1 => o v H1 k1.chg k1.cov r1
    | rf d => exact fun p vs H1 n1 k1 h1 r1 => o _ H1 k1.chg k1.cov (.lst (k1.not n1) h1 (r1.mono (B := noB) (Chg.refl H1) (fun _ z => z.elim) fun a z => .inl z))
    | ex c fs ρ1 => exact fun dd fv σ1 H1 k1 e1 h1 h2 r1 => o dd fv H1 k1.chg k1.cov h1 h2 r1
    | bk ρ1 => exact o.elim
    | ct ρ1 => exact o.elim
section
variable {P : Program} {w : World} {K : PySem.W.Frag} {mg : Str → Option Value} {base : Heap} {x qual : Str} {params : Arguments} {body : List Stmt} {scope : Scope} {f : Addr} {fd : FuncData} {N ps : List Str} {k : Nat}
theorem fn_denX {G : SV → M Fl} (F : FunD K x qual params body scope [] [] f fd) (Sc : FnScope N ps scope)
    (hb : ∀ (p : Addr × Obj) (cdv : Value) (A : Around) (outer : List Env) (s : Shared) (H : Hp) (E : XK), Hd1 (cxX P w K mg base N qual scope f cdv A outer s H E p) p → L2H.RoomH k (A.deeper (envOfC qual scope s.heap.objs.size f cdv)) →
      SS (cxX P w K mg base N qual scope f cdv A outer s H E p) (wE E) body G) :
    FnX P w K mg base (k + 1) f fd ps (spX K (runF ps.length N.length G)) := by
  refine fn_x F Sc (fun p vs H Q E ⟨st, S, ds, m, cv, r, o⟩ => ?_) fun p cdv A outer s H vs Q E hot hr ⟨st, S, ds, m, cv, r, o⟩ => ?_
  · unfold runF at o
    by_cases h : ds.length = ps.length
    · rw [r.length, h]
    · rw [if_neg h] at o; exact o.elim
  · have hd := hd_cxX (P := P) (w := w) (K := K) (mg := mg) (base := base) (N := N) (qual := qual) (scope := scope) (f := f) (cd := cdv) (A := A) (outer := outer) (s := s) (H := H) (E := E) hot
    have z := (hb p cdv A outer s H E hd hr).ps
    rw [hd.xi] at z
    exact ⟨_, z, runF_ts cv r o⟩
end
section
variable {X : Cx} {W : WX} {pos : Pos} {a b : Expr} {F G : EV → M D} {k : Nat}
theorem rh_units {A : Around} (r : L2H.RoomH k A) : A.units + 64 < cLine := by have := r.un; omega
theorem xEqX (hr : L2H.RoomH k X.A) (ha : SE X W a F) (hb : SE X W b G) : SE X W (.Compare a [.Eq] [b] pos) (f2 dEq F G) := se_cmp dEq (op_eqD (rh_units hr)) vr_eq ha hb (nomark _)
theorem cNeX (hr : L2H.RoomH k X.A) (ha : SE X W a F) (hb : SE X W b G) : ST X W (.Compare a [.NotEq] [b] pos) (t2 dNe F G) := st_cmp dNe (op_neD (rh_units hr)) vr_ne ha hb (nomark _)
end
end Den
set_option Elab.async false
set_option linter.all false
set_option maxRecDepth 100000
set_option maxHeartbeats 4000000
namespace Den
open PySem PySem.Spec PyProof.Rows L2
section
variable {X : Cx} {W : WX} {x n : Str} {cv : Value} {body suite : List Stmt} {b0 : Stmt} {np pos pos' : Pos} {B G : SV → M Fl} {k : Nat}
theorem sTryAsX (i : Nat) {tab : List (Str × Bool)} (hr : Room k X.A) (tk : Takes X W) (hN : X.N.Nodup) (hnm : Names X x cv) (T : ∀ q ∈ tab, PySem.W.exmOne X.K (.ref (He.ga X.K q.1)) cv = some q.2)
    (hB : ∀ (W' : WX) (pn : List (Addr × Obj)) (xe : Value → Shared → Prop), Takes (X.tr pn xe) W' → PassesOwn (model X.prog X.w) X.A X.env xe → SS (X.tr pn xe) W' body B)
    (hS : ∀ (a : Addr) (oe : Obj) (pn : List (Addr × Obj)), Hd1 (X.suite a ((a, oe) :: pn)) (a, oe) → L2H.RoomH k (X.suite a ((a, oe) :: pn)).A → SS (X.suite a ((a, oe) :: pn)) W0 (b0 :: suite) G)
    (hs : X.stack = X.env :: X.outer := by rfl) (hf : X.env.frame = some X.env.locals := by rfl) (hi : X.N[i]? = some n := by rfl) (hln : X.env.kindOf n = some .local := by rfl) :
    SS1 X W (.Try body [.ExceptHandler (some (.Name x np)) (some n) (b0 :: suite) pos'] [] [] pos) (gTryAs i tab B G) := by
  refine ⟨PS.imp (L2N.ps_try_as (i := i) (c := cv) (Wout := W) (tb := fun W' => TSD none X.K W' B) (ts := fun a cls d Dn σ H => ∀ oe, L2N.Zn cls d oe → (∃ vs, oe.data = .fields vs) → TSD (some (a, oe)) X.K W0 G Dn σ H)
    hs hf hN hi hln hnm tk (fun W' pn xe tk' hp' => ?_) (fun a oe cls d pn hz hfs => ?_)) fun Dn σ H h => ?_⟩
  · have z := (hB W' pn xe tk' hp').ps
    rw [xi_room (X := X.tr pn xe) hr] at z
    exact z
  · exact PSs.imp (hS a oe pn (Hd1.suite hz hfs) (L2H.roomH_mark hr _)).ps fun Dn σ H q => q oe hz hfs
  · rw [xi_room hr] at h
    obtain ⟨st, S, ρ, m, H0, kk, ee, o⟩ := h
    refine ⟨st, S, ρ, m, H0, kk, ee, ?_⟩
    unfold gTryAs at o
    rw [bind_run] at o
    cases q : B ρ m with
    | bad => rw [q] at o; exact o.elim
    | err c fs m1 => rw [q] at o; exact o.elim
    | ok f m1 =>
      rw [q] at o
      cases f with
      | nx _ => exact o
      | rt _ => exact o
      | rf _ => exact o
      | bk _ => exact o
      | ct _ => exact o
      | ex c fs ρ1 =>
        have o2 : OutS X.K W st S H0 H σ ρ ((match tab.lookup c with
          | some true => do
            need (noOwns ρ1)
            let z ← G (ρ1.set i (.va (.exc c fs)))
            rtOf z
          | some false => pure (.ex c fs ρ1)
          | none => M.bad : M Fl) m1) Dn := o
        clear o
        intro dd fv σ' H' k' e' hdd hd0 rf
        cases lk : tab.lookup c with
        | none => rw [lk] at o2; exact o2.elim
        | some b =>
          rw [lk] at o2
          refine ⟨b, T _ (lookup_mem lk), fun hb a na oe hz hfs => ?_, fun hb => ?_⟩
          · subst hb
            obtain ⟨hno, o3⟩ := out_need (P := fun r => OutS X.K W st S H0 H σ ρ r Dn) (fun z => z) o2
            have no := noOwns_own (σ := σ') hno
            have rx : Rep X.K (⟨st.s⟩ : Stx (some (a, oe))) (Av S ρ1 σ') H' (.ref a) (.exc c fs) := .exc rfl hz.1 hz.2.1 hfs hdd (rf.upx.mono (B := noB) (Chg.refl H') (fun _ z => z.elim) fun b z => z.elim id fun w => (no b w).elim)
            refine ⟨⟨st.s⟩, S, _, m1, H0, k'.cast, (e'.upx (xj := some (a, oe))).setVa (i := i) (v := .ref a) rx, ?_⟩
            exact out_rtOf (X := X) (W := W) (H := H) (σ := σ) (ρ := ρ) (Dn := Dn) rfl o3
          · subst hb
            exact o2 dd fv σ' H' k' e' hdd hd0 rf
end
end Den
set_option Elab.async false
set_option linter.all false
set_option maxRecDepth 100000
set_option maxHeartbeats 4000000
namespace Den
open PySem PySem.Spec PyProof.Rows L2 RZ
/-- an iterator's kind, over a sequence's kind -/
structure SqIt (it : Heap → Addr → Addr → Nat → Prop) (sq : Heap → Addr → Array Value → Prop) : Prop where
  item : ∀ {prog : Program} {w : World} {A : Around} {E : Value → Shared → Prop} {s : Shared} {i l : Addr} {k : Nat} {items : Array Value} {x : Value} {Q : Value → Shared → Prop}, it s.heap i l k → sq s.heap l items → items[k]? = some x →
    (∀ h', it h' i l (k + 1) → Heap.SameBut i s.heap h' → Q x { s with heap := h' }) → wpAny (model prog w) A (Builtin.SmallTypes.nextOf (.ref i)) Q E s
  stop : ∀ {prog : Program} {w : World} {A : Around} {E : Value → Shared → Prop} {s : Shared} {i l : Addr} {k : Nat} {items : Array Value} {Q : Value → Shared → Prop}, A.handled = none → it s.heap i l k → sq s.heap l items → items[k]? = none →
    (∀ h' e, Heap.ExtBut i s.heap h' → (∃ o, h'.get? e = some o ∧ o.cls = .type "StopIteration") → E (.ref e) { s with heap := h' }) → wpAny (model prog w) A (Builtin.SmallTypes.nextOf (.ref i)) Q E s
  itAt : ∀ {h h' : Heap} {i l : Addr} {k : Nat}, it h i l k → (∀ o, h.get? i = some o → h'.get? i = some o) → it h' i l k
  sqAt : ∀ {h h' : Heap} {l : Addr} {xs : Array Value}, sq h l xs → (∀ o, h.get? l = some o → h'.get? l = some o) → sq h' l xs
  obj : ∀ {h : Heap} {i l : Addr} {k : Nat}, it h i l k → ∃ o, h.get? i = some o ∧ ∀ v, o.data ≠ .cell v
theorem sqIt_L : SqIt Heap.IsListIter Heap.IsList where
  item := fun a b c d => wpAny_nextOf_list_item a b c d
  stop := fun a b c d e => wpAny_nextOf_list_end a b c d e
  itAt := fun a b => a.at b
  sqAt := fun a b => a.at b
  obj := fun ⟨o, h1, _, h2⟩ => ⟨o, h1, fun v q => by rw [h2] at q; cases q⟩
theorem sqIt_T : SqIt Heap.IsTupleIter Heap.IsTuple where
  item := fun a b c d => nextOf_tuple_item a b c d
  stop := fun a b c d e => nextOf_tuple_end a b c d e
  itAt := fun a b => a.at b
  sqAt := fun a b => a.at b
  obj := fun ⟨o, h1, _, h2⟩ => ⟨o, h1, fun v q => by rw [h2] at q; cases q⟩
section
variable {prog : Program} {w : World} {A : Around} {E : Value → Shared → Prop} {s : Shared} {itA itB : Heap → Addr → Addr → Nat → Prop} {sqA sqB : Heap → Addr → Array Value → Prop}
  {z TI TO i1 i2 l1 l2 : Addr} {k1 k2 : Nat} {xs ys : Array Value} {x y a b : Value}
theorem zipG_item {Q : Value → Shared → Prop} (SA : SqIt itA sqA) (SB : SqIt itB sqB) (D : ZipApart z TI TO i1 i2 l1 l2)
    (hz : IsZip s.heap z TI TO .none) (hTI : IsPair s.heap TI (.ref i1) (.ref i2)) (hTO : IsPair s.heap TO a b) (h1 : itA s.heap i1 l1 k1) (h2 : itB s.heap i2 l2 k2) (hl1 : sqA s.heap l1 xs) (hl2 : sqB s.heap l2 ys) (hx : xs[k1]? = some x) (hy : ys[k2]? = some y)
    (hQ : ∀ h', IsZip h' z TI TO (rawInt s.heap.objs.size) → IsPair h' TO x y → itA h' i1 l1 (k1 + 1) → itB h' i2 l2 (k2 + 1) → IsPair h' s.heap.objs.size x y → h'.objs.size = s.heap.objs.size + 1 →
      (∀ c o, c ≠ z → c ≠ TO → c ≠ i1 → c ≠ i2 → s.heap.get? c = some o → h'.get? c = some o) → Q (.ref s.heap.objs.size) { s with heap := h' }) :
    wpAny (model prog w) A (Builtin.«zip.__next__» ⟨[.ref z], []⟩) (fun fin s' => ∃ v, fin = .done (.ret v) ∧ Q v s') E s := by
  show wpAny _ _ (field (.ref z) 2 >>= _) _ _ _
  apply wpAny_bind
  apply wpAny_field hz rfl (x := .bool false) rfl
  show wpAny _ _ (field (.ref z) 3 >>= _) _ _ _
  apply wpAny_bind
  apply wpAny_field hz rfl (x := .ref TI) rfl
  apply wpAny_bind
  apply wpAny_seqItems hTI rfl
  show wpAny _ _ (Builtin.SmallTypes.ownedTupleIsFree (.ref z) >>= _) _ _ _
  apply wpAny_bind
  unfold Builtin.SmallTypes.ownedTupleIsFree
  apply wpAny_bind
  apply wpAny_field hz rfl (x := .none) rfl
  apply wpAny_pure
  simp only [if_true]
  apply wpAny_bind
  apply wpAny_rule
  apply wpAny_bind
  apply wpAny_field hz rfl (x := .ref TO) rfl
  apply wpAny_bind
  refine wpAny_setField_rec hz (by simp) fun g1 z1 s1 => ?_
  replace z1 : IsZip g1 z TI TO .ellipsis := z1
  apply wpAny_bind
  simp only [List.zipIdx_cons, List.zipIdx_nil, List.forIn_cons, List.forIn_nil]
  refine wpAny_bind (wpAny_bind (wpAny_onRaise ?_))
  show wpAny _ _ (Builtin.SmallTypes.nextOf (.ref i1) >>= _) _ _ _
  apply wpAny_bind
  refine SA.item (SA.itAt h1 fun o e => s1.extBut _ _ D.i1z e) (SA.sqAt hl1 fun o e => s1.extBut _ _ D.l1z e) hx fun g2 j2 s2 => wpAny_pure ?_
  have o2 : IsPair g2 TO a b := s2.extBut _ _ D.TOi1 (s1.extBut _ _ D.TOz hTO)
  apply wpAny_bind
  apply wpAny_seqItems o2 rfl
  apply wpAny_bind
  refine wpAny_updateSeq_pair o2 fun g3 o3 s3 => ?_
  replace o3 : IsPair g3 TO x b := o3
  refine wpAny_bind (wpAny_letGo (wpAny_pure ?_))
  refine wpAny_bind (wpAny_bind (wpAny_onRaise ?_))
  show wpAny _ _ (Builtin.SmallTypes.nextOf (.ref i2) >>= _) _ _ _
  apply wpAny_bind
  have c3 : ∀ c o, c ≠ z → c ≠ i1 → c ≠ TO → s.heap.get? c = some o → g3.get? c = some o := fun c o n1 n2 n3 e => s3.extBut _ _ n3 (s2.extBut _ _ n2 (s1.extBut _ _ n1 e))
  refine SB.item (SB.itAt h2 fun o e => c3 _ _ D.i2z D.i12.symm D.TOi2.symm e) (SB.sqAt hl2 fun o e => c3 _ _ D.l2z D.l2i1 D.l2TO e) hy fun g4 j4 s4 => wpAny_pure ?_
  have o4 : IsPair g4 TO x b := s4.extBut _ _ D.TOi2 o3
  apply wpAny_bind
  apply wpAny_seqItems o4 rfl
  apply wpAny_bind
  refine wpAny_updateSeq_pair o4 fun g5 o5 s5 => ?_
  replace o5 : IsPair g5 TO x y := o5
  refine wpAny_bind (wpAny_letGo (wpAny_pure (wpAny_pure ?_)))
  apply wpAny_bind
  apply wpAny_seqItems o5 rfl
  apply wpAny_bind
  refine wpAny_newTuple ?_
  have sz : g5.objs.size = s.heap.objs.size := by rw [s5.1, s4.1, s3.1, s2.1, s1.1]
  have z5 : IsZip g5 z TI TO .ellipsis := s5.extBut _ _ D.TOz.symm (s4.extBut _ _ D.i2z.symm (s3.extBut _ _ D.TOz.symm (s2.extBut _ _ D.i1z.symm z1)))
  have c5 : ∀ c o, c ≠ z → c ≠ TO → c ≠ i1 → c ≠ i2 → s.heap.get? c = some o → g5.get? c = some o := fun c o n1 n2 n3 n4 e => s5.extBut _ _ n2 (s4.extBut _ _ n4 (c3 _ _ n1 n3 n2 e))
  have j5 : itA g5 i1 l1 (k1 + 1) := SA.itAt j2 fun o e => s5.extBut _ _ D.TOi1.symm (s4.extBut _ _ D.i12 (s3.extBut _ _ D.TOi1.symm e))
  have k5 : itB g5 i2 l2 (k2 + 1) := SB.itAt j4 fun o e => s5.extBut _ _ D.TOi2.symm e
  have zl : z < g5.objs.size := Heap.lt_size z5
  show wpAny _ _ (Builtin.SmallTypes.ownedTupleHandOut (.ref z) (.ref g5.objs.size) >>= _) _ _ _
  apply wpAny_bind
  unfold Builtin.SmallTypes.ownedTupleHandOut
  have z6 : IsZip (g5.push { cls := .type "tuple", data := .seq #[x, y] }) z TI TO .ellipsis := Heap.get?_push_of_some _ z5
  apply wpAny_bind
  refine wpAny_setField_rec z6 (by simp) fun g7 z7 s7 => ?_
  replace z7 : IsZip g7 z TI TO (rawInt g5.objs.size) := z7
  refine wpAny_setField_rec z7 (by simp) fun g8 z8 s8 => ?_
  replace z8 : IsZip g8 z TI TO (rawInt g5.objs.size) := z8
  have up : ∀ c o, c ≠ z → g5.get? c = some o → g8.get? c = some o := fun c o n1 e => s8.extBut _ _ n1 (s7.extBut _ _ n1 (Heap.get?_push_of_some _ e))
  have t8 : IsPair g8 g5.objs.size x y := s8.extBut _ _ (Nat.ne_of_gt zl) (s7.extBut _ _ (Nat.ne_of_gt zl) (Heap.get?_push_size _ rfl))
  have n8 : g8.objs.size = g5.objs.size + 1 := by rw [s8.1, s7.1, Heap.size_push]
  rw [sz] at z8 t8 n8
  refine wpAny_pure ⟨_, rfl, ?_⟩
  show Q (.ref g5.objs.size) _
  rw [sz]
  exact hQ g8 z8 (up _ _ D.TOz o5) (SA.itAt j5 fun o e => up _ o D.i1z e) (SB.itAt k5 fun o e => up _ o D.i2z e) t8 n8 fun c o n1 n2 n3 n4 e => up c o n1 (c5 c o n1 n2 n3 n4 e)
theorem zipG_stop {Q : Fin → Shared → Prop} (hh : A.handled = none) (SA : SqIt itA sqA) (SB : SqIt itB sqB) (D : ZipApart z TI TO i1 i2 l1 l2)
    (hz : IsZip s.heap z TI TO .none) (hTI : IsPair s.heap TI (.ref i1) (.ref i2)) (hTO : IsPair s.heap TO a b) (h1 : itA s.heap i1 l1 k1) (h2 : itB s.heap i2 l2 k2) (hl1 : sqA s.heap l1 xs) (hl2 : sqB s.heap l2 ys) (hend : xs[k1]? = none ∨ ys[k2]? = none)
    (hE : ∀ h' e, (∀ c o, c ≠ z → c ≠ TO → c ≠ i1 → c ≠ i2 → s.heap.get? c = some o → h'.get? c = some o) → (∃ o, h'.get? e = some o ∧ o.cls = .type "StopIteration") → E (.ref e) { s with heap := h' }) :
    wpAny (model prog w) A (Builtin.«zip.__next__» ⟨[.ref z], []⟩) Q E s := by
  show wpAny _ _ (field (.ref z) 2 >>= _) _ _ _
  apply wpAny_bind
  apply wpAny_field hz rfl (x := .bool false) rfl
  show wpAny _ _ (field (.ref z) 3 >>= _) _ _ _
  apply wpAny_bind
  apply wpAny_field hz rfl (x := .ref TI) rfl
  apply wpAny_bind
  apply wpAny_seqItems hTI rfl
  show wpAny _ _ (Builtin.SmallTypes.ownedTupleIsFree (.ref z) >>= _) _ _ _
  apply wpAny_bind
  unfold Builtin.SmallTypes.ownedTupleIsFree
  apply wpAny_bind
  apply wpAny_field hz rfl (x := .none) rfl
  apply wpAny_pure
  simp only [if_true]
  apply wpAny_bind
  apply wpAny_rule
  apply wpAny_bind
  apply wpAny_field hz rfl (x := .ref TO) rfl
  apply wpAny_bind
  refine wpAny_setField_rec hz (by simp) fun g1 z1 s1 => ?_
  replace z1 : IsZip g1 z TI TO .ellipsis := z1
  apply wpAny_bind
  simp only [List.zipIdx_cons, List.zipIdx_nil, List.forIn_cons, List.forIn_nil]
  refine wpAny_bind (wpAny_bind (wpAny_onRaise ?_))
  show wpAny _ _ (Builtin.SmallTypes.nextOf (.ref i1) >>= _) _ _ _
  apply wpAny_bind
  cases hx : xs[k1]? with
  | none =>
    refine SA.stop hh (SA.itAt h1 fun o e => s1.extBut _ _ D.i1z e) (SA.sqAt hl1 fun o e => s1.extBut _ _ D.l1z e) hx fun g2 e s2 ⟨oe, e1, e2⟩ => ?_
    have z2 : IsZip g2 z TI TO .ellipsis := s2 _ _ D.i1z.symm z1
    have ez : e ≠ z := fun q => by subst q; rw [z2] at e1; cases e1; simp at e2
    exact wpAny_setField_rec z2 (by simp) fun g3 _ s3 => hE g3 e (fun c o n1 _ n3 _ q => s3.extBut _ _ n1 (s2 _ _ n3 (s1.extBut _ _ n1 q))) ⟨oe, s3.extBut _ _ ez e1, e2⟩
  | some x =>
    have hy : ys[k2]? = none := hend.resolve_left fun q => by rw [hx] at q; cases q
    refine SA.item (SA.itAt h1 fun o e => s1.extBut _ _ D.i1z e) (SA.sqAt hl1 fun o e => s1.extBut _ _ D.l1z e) hx fun g2 j2 s2 => wpAny_pure ?_
    have o2 : IsPair g2 TO a b := s2.extBut _ _ D.TOi1 (s1.extBut _ _ D.TOz hTO)
    apply wpAny_bind
    apply wpAny_seqItems o2 rfl
    apply wpAny_bind
    refine wpAny_updateSeq_pair o2 fun g3 o3 s3 => ?_
    refine wpAny_bind (wpAny_letGo (wpAny_pure ?_))
    refine wpAny_bind (wpAny_bind (wpAny_onRaise ?_))
    show wpAny _ _ (Builtin.SmallTypes.nextOf (.ref i2) >>= _) _ _ _
    apply wpAny_bind
    have c3 : ∀ c o, c ≠ z → c ≠ i1 → c ≠ TO → s.heap.get? c = some o → g3.get? c = some o := fun c o n1 n2 n3 e => s3.extBut _ _ n3 (s2.extBut _ _ n2 (s1.extBut _ _ n1 e))
    refine SB.stop hh (SB.itAt h2 fun o e => c3 _ _ D.i2z D.i12.symm D.TOi2.symm e) (SB.sqAt hl2 fun o e => c3 _ _ D.l2z D.l2i1 D.l2TO e) hy fun g4 e s4 ⟨oe, e1, e2⟩ => ?_
    have z4 : IsZip g4 z TI TO .ellipsis := s4 _ _ D.i2z.symm (s3.extBut _ _ D.TOz.symm (s2.extBut _ _ D.i1z.symm z1))
    have ez : e ≠ z := fun q => by subst q; rw [z4] at e1; cases e1; simp at e2
    exact wpAny_setField_rec z4 (by simp) fun g5 _ s5 => hE g5 e (fun c o n1 n2 n3 n4 q => s5.extBut _ _ n1 (s4 _ _ n4 (c3 _ _ n1 n3 n2 q))) ⟨oe, s5.extBut _ _ ez e1, e2⟩
theorem pyNext_zipG {Q : Option Value → Shared → Prop} (SA : SqIt itA sqA) (SB : SqIt itB sqB) (D : ZipApart z TI TO i1 i2 l1 l2)
    (hz : IsZip s.heap z TI TO .none) (hTI : IsPair s.heap TI (.ref i1) (.ref i2)) (hTO : IsPair s.heap TO a b) (h1 : itA s.heap i1 l1 k1) (h2 : itB s.heap i2 l2 k2) (hl1 : sqA s.heap l1 xs) (hl2 : sqB s.heap l2 ys) (hx : xs[k1]? = some x) (hy : ys[k2]? = some y)
    (hQ : ∀ h', IsZip h' z TI TO (rawInt s.heap.objs.size) → IsPair h' TO x y → itA h' i1 l1 (k1 + 1) → itB h' i2 l2 (k2 + 1) → IsPair h' s.heap.objs.size x y → h'.objs.size = s.heap.objs.size + 1 →
      (∀ c o, c ≠ z → c ≠ TO → c ≠ i1 → c ≠ i2 → s.heap.get? c = some o → h'.get? c = some o) → Q (some (.ref s.heap.objs.size)) { s with heap := h' }) :
    wpAny (model prog w) A (pyNext (.ref z)) Q E s := by
  have hT : s.TypeIs (.ref z) "zip" := ⟨_, hz, rfl⟩
  unfold pyNext
  apply wpAny_bind
  apply wpAny_attempt
  refine wpAny_callSpecial?_slot (name := Str.ofString "__next__") hT F.slot_zip_next (wpAny_call_entry F.slot_zip_next hT F.entry_zip_next ?_ (F.args_zip_next_1 _))
  exact zipG_item SA SB D hz hTI hTO h1 h2 hl1 hl2 hx hy fun h' a1 a2 a3 a4 a5 a6 a7 => wpAny_pure (hQ h' a1 a2 a3 a4 a5 a6 a7)
theorem pyNext_zipG_end {Q : Option Value → Shared → Prop} (hh : A.handled = none) (SA : SqIt itA sqA) (SB : SqIt itB sqB) (D : ZipApart z TI TO i1 i2 l1 l2)
    (hz : IsZip s.heap z TI TO .none) (hTI : IsPair s.heap TI (.ref i1) (.ref i2)) (hTO : IsPair s.heap TO a b) (h1 : itA s.heap i1 l1 k1) (h2 : itB s.heap i2 l2 k2) (hl1 : sqA s.heap l1 xs) (hl2 : sqB s.heap l2 ys) (hend : xs[k1]? = none ∨ ys[k2]? = none)
    (hQ : ∀ h', (∀ c o, c ≠ z → c ≠ TO → c ≠ i1 → c ≠ i2 → s.heap.get? c = some o → h'.get? c = some o) → Q none { s with heap := h' }) : wpAny (model prog w) A (pyNext (.ref z)) Q E s := by
  have hT : s.TypeIs (.ref z) "zip" := ⟨_, hz, rfl⟩
  unfold pyNext
  apply wpAny_bind
  apply wpAny_attempt
  refine wpAny_callSpecial?_slot (name := Str.ofString "__next__") hT F.slot_zip_next (wpAny_call_entry F.slot_zip_next hT F.entry_zip_next ?_ (F.args_zip_next_1 _))
  refine zipG_stop hh SA SB D hz hTI hTO h1 h2 hl1 hl2 hend fun h' e hk ⟨o, ho, hc⟩ => ?_
  exact wpAny_bind (wpAny_isInstance (T := "StopIteration") (b := true) ⟨o, ho, hc⟩ isSubtype_stop (wpAny_pure (hQ _ hk)))
end
def zp1 (h : Heap) (l1 : Addr) : Heap := h.push { cls := .type "tuple_iterator", data := .fields #[.ref l1, .int 0 0] }
def zp2 (h : Heap) (l1 l2 : Addr) : Heap := (zp1 h l1).push { cls := .type "list_iterator", data := .fields #[.ref l2, .int 0 0] }
def zp3 (h : Heap) (l1 l2 : Addr) : Heap := (zp2 h l1 l2).push { cls := .type "tuple", data := .seq #[.ref h.objs.size, .ref (zp1 h l1).objs.size] }
def zp4 (h : Heap) (l1 l2 : Addr) : Heap := (zp3 h l1 l2).push { cls := .type "tuple", data := .seq #[.none, .none] }
def zp5 (h : Heap) (l1 l2 : Addr) : Heap := (zp4 h l1 l2).push { cls := .type "zip", data := .fields #[.none, .bool false, .bool false, .ref (zp2 h l1 l2).objs.size, .ref (zp3 h l1 l2).objs.size] }
theorem zp_new (l1 l2 : Addr) (xs ys : Array Value) :
    Meets (Builtin.«zip.__new__» ⟨[.type "zip", .ref l1, .ref l2], []⟩) (fun _ R s => s.heap.IsTuple l1 xs ∧ s.heap.IsList l2 ys ∧ R (.ok (.ret (.ref (zp4 s.heap l1 l2).objs.size))) { s with heap := zp5 s.heap l1 l2 }) :=
  .of_wp fun prog w A R s h => by
    obtain ⟨hp, g, d, tk, os⟩ := s
    obtain ⟨hl1, hl2, h⟩ := h
    have hsub := sub_zip
    have hL1 : Heap.IsTuple (Shared.heap ⟨hp, g, d, tk, os⟩) l1 xs := hl1
    have hL2 : Heap.IsList (Shared.heap ⟨hp.push { cls := .type "tuple_iterator", data := .fields #[.ref l1, .int 0 0] }, g, d, tk, os⟩) l2 ys := Heap.IsList.push hl2 _
    wp_walk using wpAny_pyIter_tuple hL1, wpAny_pyIter_list hL2
    exact ⟨_, rfl, h⟩
section
variable {prog : Program} {w : World} {A : Around} {E : Value → Shared → Prop} {s : Shared}
theorem call_zipTL {l1 l2 : Addr} {xs ys : Array Value} {Q : Value → Shared → Prop} (hl1 : s.heap.IsTuple l1 xs) (hl2 : s.heap.IsList l2 ys)
    (h : ∀ h', IsZip h' (s.heap.objs.size + 4) (s.heap.objs.size + 2) (s.heap.objs.size + 3) .none → IsPair h' (s.heap.objs.size + 2) (.ref s.heap.objs.size) (.ref (s.heap.objs.size + 1)) →
      IsPair h' (s.heap.objs.size + 3) .none .none → h'.IsTupleIter s.heap.objs.size l1 0 → h'.IsListIter (s.heap.objs.size + 1) l2 0 → h'.objs.size = s.heap.objs.size + 5 →
      (∀ c o, s.heap.get? c = some o → h'.get? c = some o) → Q (.ref (s.heap.objs.size + 4)) { s with heap := h' }) :
    wpAny (model prog w) A (call (.type "zip") [.ref l1, .ref l2]) Q E s := by
  refine callType_new F.called_zip (by decide) (F.typeCall_zip_2 _ _) (F.newCall_zip_2 _ _) (fun obj => F.args_object_init_3 obj _ _) F.entry_zip_new (zp_new l1 l2 xs ys) ⟨hl1, hl2, ?_⟩
  have n1 : (zp1 s.heap l1).objs.size = s.heap.objs.size + 1 := Heap.size_push ..
  have n2 : (zp2 s.heap l1 l2).objs.size = s.heap.objs.size + 2 := by rw [zp2, Heap.size_push, n1]
  have n3 : (zp3 s.heap l1 l2).objs.size = s.heap.objs.size + 3 := by rw [zp3, Heap.size_push, n2]
  have n4 : (zp4 s.heap l1 l2).objs.size = s.heap.objs.size + 4 := by rw [zp4, Heap.size_push, n3]
  have n5 : (zp5 s.heap l1 l2).objs.size = s.heap.objs.size + 5 := by rw [zp5, Heap.size_push, n4]
  have k4 : ∀ c o, (zp4 s.heap l1 l2).get? c = some o → (zp5 s.heap l1 l2).get? c = some o := fun c o e => Heap.get?_push_of_some _ e
  have k3 : ∀ c o, (zp3 s.heap l1 l2).get? c = some o → (zp5 s.heap l1 l2).get? c = some o := fun c o e => k4 c o (Heap.get?_push_of_some _ e)
  have k2 : ∀ c o, (zp2 s.heap l1 l2).get? c = some o → (zp5 s.heap l1 l2).get? c = some o := fun c o e => k3 c o (Heap.get?_push_of_some _ e)
  have k1 : ∀ c o, (zp1 s.heap l1).get? c = some o → (zp5 s.heap l1 l2).get? c = some o := fun c o e => k2 c o (Heap.get?_push_of_some _ e)
  have g5 : (zp5 s.heap l1 l2).get? (zp4 s.heap l1 l2).objs.size = some _ := Heap.get?_push_size _ rfl
  have g4 : (zp5 s.heap l1 l2).get? (zp3 s.heap l1 l2).objs.size = some _ := k4 _ _ (Heap.get?_push_size _ rfl)
  have g3 : (zp5 s.heap l1 l2).get? (zp2 s.heap l1 l2).objs.size = some _ := k3 _ _ (Heap.get?_push_size _ rfl)
  have g2 : (zp5 s.heap l1 l2).get? (zp1 s.heap l1).objs.size = some _ := k2 _ _ (Heap.get?_push_size _ rfl)
  have g1 : (zp5 s.heap l1 l2).get? s.heap.objs.size = some _ := k1 _ _ (Heap.get?_push_size _ rfl)
  show _ ∧ _
  rw [n2, n3, n4] at g5
  rw [n1, n2] at g3
  rw [n3] at g4
  rw [n1] at g2
  rw [n4]
  exact ⟨⟨_, g5, rfl⟩, h _ g5 g3 g4 ⟨_, g1, rfl, rfl⟩ ⟨_, g2, rfl, rfl⟩ n5 fun c o x => k1 _ _ (Heap.get?_push_of_some _ x)⟩
end
end Den
set_option Elab.async false
set_option linter.all false
set_option maxRecDepth 100000
set_option maxHeartbeats 4000000
namespace Den
open PySem PySem.Spec PyProof.Rows L2 RZ
def ItzM (K : PySem.W.Frag) (a b : Addr) : It :=
  ⟨fun i H => ∃ (xs ys : List V) (x y : V), SqT K H a xs ∧ SqL K H b ys ∧ xs[i]? = some x ∧ ys[i]? = some y,
    fun i H v H' => ∃ T x y, v = .ref T ∧ H T = none ∧ H' = upd H T (.tup [x, y]) ∧ (∀ xs, SqT K H a xs → xs[i]? = some x) ∧ ∀ ys, SqL K H b ys → ys[i]? = some y,
    fun i H => ∃ xs ys : List V, SqT K H a xs ∧ SqL K H b ys ∧ (xs.length ≤ i ∨ ys.length ≤ i)⟩
theorem five {p : Addr → Prop} {z TI TO i1 i2 : Addr} (h1 : p z) (h2 : p TI) (h3 : p TO) (h4 : p i1) (h5 : p i2) : ∀ c ∈ [z, TI, TO, i1, i2], p c := by
  intro c hc
  have e : c = z ∨ c = TI ∨ c = TO ∨ c = i1 ∨ c = i2 := by simpa using hc
  rcases e with q | q | q | q | q <;> (rw [q]; assumption)
theorem notin5 {b z TI TO i1 i2 : Addr} (h : b ∉ [z, TI, TO, i1, i2]) : b ≠ z ∧ b ≠ TI ∧ b ≠ TO ∧ b ≠ i1 ∧ b ≠ i2 := by simpa [not_or] using h
theorem turn_zipM {P : Program} {w : World} {K : PySem.W.Frag} {elts : List Expr} {kk : Nat} {tpos : Pos} {a b z TI TO i1 i2 : Addr} (D : ZipApart z TI TO i1 i2 a b) :
    Turn P w K (.Tuple elts kk tpos) (ItzM K a b) [z, TI, TO, i1, i2] z (fun i h => IsZip h z TI TO .none ∧ IsPair h TI (.ref i1) (.ref i2) ∧ (∃ x y, IsPair h TO x y) ∧ h.IsTupleIter i1 a i ∧ h.IsListIter i2 b i) where
  mem := by simp
  obj := fun i h ⟨hz, hTI, ⟨x, y, hTO⟩, h1, h2⟩ => five (p := fun c => ∃ o, h.get? c = some o ∧ ∀ v, o.data ≠ .cell v) ⟨_, hz, fun v q => nomatch q⟩ ⟨_, hTI, fun v q => nomatch q⟩ ⟨_, hTO, fun v q => nomatch q⟩ (sqIt_T.obj h1) (sqIt_L.obj h2)
  keep := fun i h h' ⟨hz, hTI, ⟨x, y, hTO⟩, h1, h2⟩ k => ⟨k z (by simp) _ hz, k TI (by simp) _ hTI, ⟨x, y, k TO (by simp) _ hTO⟩, h1.at fun o q => k i1 (by simp) o q, h2.at fun o q => k i2 (by simp) o q⟩
  item := by
    intro X hP hw hK hc i pins s σ H E I hf ⟨hz, hTI, ⟨x0, y0, hTO⟩, h1, h2⟩ ⟨xs, ys, x, y, hqx, hqy, hx, hy⟩
    subst hP hw hK
    obtain ⟨its, rv, p, _⟩ := I.tuple hqx
    obtain ⟨its2, rv2, p2, _⟩ := I.list hqy
    obtain ⟨u, hu, ru⟩ := rv.get hx
    obtain ⟨u2, hu2, ru2⟩ := rv2.get hy
    have hzl : z < s.heap.objs.size := Heap.lt_size hz
    refine pyNext_zipG sqIt_T sqIt_L D hz hTI hTO h1 h2 p p2.isList (x := u) (y := u2) (by simpa using hu) (by simpa using hu2) fun h' z' o' j1 j2 hT hsz hk => ?_
    refine ⟨_, rfl, wpAny_letOwnedTupleGo_zip (s := { s with heap := h' }) z' fun h'' z'' sb => ?_⟩
    have hT2 : h''.get? s.heap.objs.size = some { cls := .type "tuple", data := .seq #[u, u2] } := (sb.2 _ (Nat.ne_of_gt hzl)).trans hT
    have new : ObjOk X.prog X.w (upd H s.heap.objs.size (.tup [x, y])) h'' s.heap.objs.size (.tup [x, y]) := ⟨by show 2 ≤ sizeLine; decide, [u, u2], .cons ru (.cons ru2 .nil), ⟨_, hT2, rfl, _, rfl⟩⟩
    have I1 : Inv X pins σ (upd H s.heap.objs.size (.tup [x, y])) { s with heap := h'' } := I.turnedNew (t' := s.toks) (ch := [z, TI, TO, i1, i2]) (fun c o hb q => by
      obtain ⟨b1, b2, b3, b4, b5⟩ := notin5 hb
      exact (sb.2 c b1).trans (hk c o b1 b3 b4 b5 q)) hf (Nat.le_refl _) new
    have sub : ∀ c ∈ [z, TI, TO, i1, i2], c < s.heap.objs.size := five (p := fun c => c < s.heap.objs.size) hzl (Heap.lt_size hTI) (Heap.lt_size hTO) (by obtain ⟨_, e, _⟩ := sqIt_T.obj h1; exact Heap.lt_size e) (by obtain ⟨_, e, _⟩ := sqIt_L.obj h2; exact Heap.lt_size e)
    refine ⟨.ref s.heap.objs.size, _, I1, rfl, ⟨_, x, y, rfl, I.hok.fresh (Nat.le_refl _), rfl, fun l hl => by rw [I.tuple_inj hl hqx]; exact hx, fun l hl => by rw [I.list_inj hl hqy]; exact hy⟩, ⟨z'', (sb.2 _ D.TIz).trans (hk _ _ D.TIz D.TITO D.TIi1 D.TIi2 hTI), ⟨u, u2, (sb.2 _ D.TOz).trans o'⟩, j1.at fun o q => (sb.2 _ D.i1z).trans q, j2.at fun o q => (sb.2 _ D.i2z).trans q⟩, fun c hcm => ?_⟩
    rw [upd_ne (Nat.ne_of_lt (sub c hcm))]
    exact (hf c hcm).1
  done := by
    intro X hP hw hK hc i pins s σ H E I hf ⟨hz, hTI, ⟨x0, y0, hTO⟩, h1, h2⟩ ⟨xs, ys, hqx, hqy, hend⟩
    subst hP hw hK
    obtain ⟨its, rv, p, _⟩ := I.tuple hqx
    obtain ⟨its2, rv2, p2, _⟩ := I.list hqy
    have l1 := rv.length
    have l2 := rv2.length
    have he : its.toArray[i]? = none ∨ its2.toArray[i]? = none := hend.imp (fun q => by simp; omega) fun q => by simp; omega
    refine pyNext_zipG_end (I.ok.hd hc) sqIt_T sqIt_L D hz hTI hTO h1 h2 p p2.isList he fun h' hk => ⟨rfl, I.turnedL (t' := s.toks) (ch := [z, TI, TO, i1, i2]) (fun c o hb q => ?_) hf⟩
    obtain ⟨b1, b2, b3, b4, b5⟩ := notin5 hb
    exact hk c o b1 b3 b4 b5 q
  self := fun A i s Q E st h => wpAny_pyIter_zip st.1 h
def iZipM (K : PySem.W.Frag) (ta : TA) : TI := fun σ H R => ta σ H fun vs H1 => ∃ a b xs ys, vs = [.ref a, .ref b] ∧ SqT K H1 a xs ∧ SqL K H1 b ys ∧ R (ItzM K a b) H1
theorem pi_zipM {X : Cx} {e e2 : Expr} {ta : TA} {p pos tpos : Pos} {elts : List Expr} {kk : Nat} (hg : Gl X "zip") (hm : X.mg "zip" = none) (ha : PA X [e, e2] ta)
    (hs : starEach [e, e2] X.env = (false, eval e X.env) :: starEach [e2] X.env := by rfl) (hpl : (backTo pos (starEach [e2] X.env)).any (·.1) = false := by rfl) :
    PI X (.Tuple elts kk tpos) (.Call (.Name "zip" p) [e, e2] [] pos) (iZipM X.K ta) := by
  refine ⟨fun pins s σ H R I h => ?_⟩
  refine Call_ (ld_blt I hg hm PyProof.Rows.boot_zip (PyProof.Rows.callWith_type1 (thn (ha.run pos pins s σ H _ I h) fun us s1 ⟨vs, H1, I1, r1, a, b, xs, ys, ex, hqx, hqy, q⟩ => ?_) hs hpl))
  subst ex
  cases r1 with
  | cons r rr =>
    cases rr with
    | cons r' rr =>
      cases rr
      cases r
      cases r'
      obtain ⟨its, rv, p1, _⟩ := I1.tuple hqx
      obtain ⟨its2, rv2, p2, _⟩ := I1.list hqy
      obtain ⟨o1, e1, _⟩ := id p1
      refine call_zipTL (show s1.heap.IsTuple a its.toArray from p1) p2.isList fun h' hz hTI hTO h1 h2 hsz hk => wpAny_pyIter_zip hz ?_
      have I2 : Inv X pins σ H1 { s1 with heap := h' } := I1.kept (t' := s1.toks) hk
      have fr : ∀ n, FpOk X pins H1 (s1.heap.objs.size + n) := fun n => I1.fpOk (Nat.le_add_right _ _) (I1.hok.fresh (Nat.le_add_right _ _))
      exact ⟨s1.heap.objs.size + 4, [s1.heap.objs.size + 4, s1.heap.objs.size + 2, s1.heap.objs.size + 3, s1.heap.objs.size, s1.heap.objs.size + 1], _, _, H1, rfl, I2, turn_zipM (PySem.W.ktu_apart s1.heap.objs.size a b (Heap.lt_size e1) p2.lt), ⟨hz, hTI, ⟨_, _, hTO⟩, h1, h2⟩, five (p := fun c => FpOk X pins H1 c) (fr 4) (fr 2) (fr 3) (fr 0) (fr 1), q⟩
section
variable {K : PySem.W.Frag} {xi : XI} {st : Stx xi}
theorem walkD_zipM {a b : Addr} {ds es : List D} : WalkD true K st (ItzM K a b) (zipD ds es) [.ref a, .ref b] [.tup ds, .lst es] where
  goes := fun S H i hi r => by
    obtain ⟨v, u, e, rv, ru⟩ := repL2 r
    cases e
    cases rv with
    | tup hs rr =>
      cases ru with
      | lst hn2 hs2 rr2 =>
        rw [zipD_length] at hi
        obtain ⟨v, h1, h2⟩ := rr.get (i := i) (d := ds[i]'(by omega)) (by simp)
        obtain ⟨v', h1', h2'⟩ := rr2.get (i := i) (d := es[i]'(by omega)) (by simp)
        exact ⟨_, _, v, v', hs.sq, SqL.of hs2, h1, h1'⟩
  stops := fun S H r => by
    obtain ⟨v, u, e, rv, ru⟩ := repL2 r
    cases e
    cases rv with
    | tup hs rr =>
      cases ru with
      | lst hn2 hs2 rr2 => exact ⟨_, _, hs.sq, SqL.of hs2, by rw [zipD_length, rr.length, rr2.length]; omega⟩
  yields := fun S H i x H' hi r y => by
    obtain ⟨v, u, e, rv, ru⟩ := repL2 r
    cases e
    cases rv with
    | tup hs rr =>
      cases ru with
      | lst hn2 hs2 rr2 =>
        obtain ⟨T, p, q, e1, e2, e3, e4, e5⟩ := y
        subst e1 e3
        obtain ⟨d, h1, h2⟩ := rr.getV (e4 _ hs.sq)
        obtain ⟨d', h1', h2'⟩ := rr2.getV (e5 _ (SqL.of hs2))
        exact ⟨_, zipD_get h1 h1', Chg.new e2, pair_new e2 h2 h2'⟩
end
def dZipM : List D → M (List D)
  | [.tup xs, .lst ys] => pure (zipD xs ys)
  | _ => M.bad
theorem dZipM_or (ds : List D) : (∃ xs ys, ds = [.tup xs, .lst ys] ∧ dZipM ds = pure (zipD xs ys)) ∨ dZipM ds = M.bad := by
  match ds with
  | [] => exact .inr rfl
  | [d] => cases d <;> exact .inr rfl
  | [d, e] => cases d <;> cases e <;> first | exact .inl ⟨_, _, rfl, rfl⟩ | exact .inr rfl
  | d :: e :: _ :: _ => cases d <;> cases e <;> exact .inr rfl
theorem jZipM {X : Cx} {W : WX} {a b : Expr} {p pos tpos : Pos} {elts : List Expr} {kk : Nat} {A : EV → M (List D)} (hm : X.mg "zip" = none) (ha : SA X W [a, b] A) (hg : Gl X "zip" := by rfl)
    (hs : starEach [a, b] X.env = (false, eval a X.env) :: starEach [b] X.env := by rfl) (hpl : (backTo pos (starEach [b] X.env)).any (·.1) = false := by rfl) :
    SI true X W (.Tuple elts kk tpos) (.Call (.Name "zip" p) [a, b] [] pos) (iG dZipM A) := by
  refine ⟨PI.imp (pi_zipM hg hm ha.pa hs hpl) fun σ H Q ⟨st, S, ρ, m, cv, er, o⟩ => ?_⟩
  refine TAD.bindI (G := dZipM) cv er o fun vs ds m1 H1 c1 cv1 er1 r1 o1 => ?_
  rcases dZipM_or ds with ⟨xs, ys, e1, e2⟩ | e2
  · rw [e2] at o1
    subst e1
    obtain ⟨v, u, ev, rv, ru⟩ := repL2 r1
    subst ev
    have r0 := rv
    have r2 := ru
    cases rv with
    | tup hs rr =>
      cases ru with
      | lst hn2 hs2 rr2 => exact ⟨_, _, _, _, rfl, hs.sq, SqL.of hs2, o1 _ _ _ H1 (Chg.refl _) cv1 (.cons r0 (.cons r2 .nil)) walkD_zipM⟩
  · rw [e2] at o1; exact o1.elim
end Den
set_option Elab.async false
set_option linter.all false
set_option maxRecDepth 100000
set_option maxHeartbeats 4000000
namespace Den
open PySem PySem.Spec PyProof.Rows L2 RZ
section
variable {prog : Program} {w : World} {A : Around} {E : Value → Shared → Prop} {s : Shared} {itA : Heap → Addr → Addr → Nat → Prop} {sqA : Heap → Addr → Array Value → Prop} {e it l : Addr} {i : Nat} {items : Array Value} {x old : Value}
theorem enumG_item {Q : Value → Shared → Prop} (SA : SqIt itA sqA) (he : IsEnum s.heap e it i old) (hit : itA s.heap it l i) (hl : sqA s.heap l items) (hx : items[i]? = some x) (hne : e ≠ it)
    (hQ : ∀ h', IsEnumOut h' e it ((i : Int) + 1) x s.heap.objs.size → itA h' it l (i + 1) → h'.get? s.heap.objs.size = some { cls := .type "tuple", data := .seq #[.int i s.toks, x] } → h'.objs.size = s.heap.objs.size + 1 →
      (∀ b o, b ≠ e → b ≠ it → s.heap.get? b = some o → h'.get? b = some o) → Q (.ref s.heap.objs.size) { s with heap := h', toks := s.toks + 1 }) :
    wpAny (model prog w) A (Builtin.«enumerate.__next__» ⟨[.ref e], []⟩) (fun fin s' => ∃ v, fin = .done (.ret v) ∧ Q v s') E s := by
  obtain ⟨hp, g, d, tk, os⟩ := s
  show wpAny _ _ (field (.ref e) 2 >>= _) _ _ _
  apply wpAny_bind
  apply wpAny_field he rfl (x := .ref it) rfl
  apply wpAny_bind
  refine SA.item hit hl hx fun g1 j1 s1 => ?_
  replace s1 : Heap.SameBut it hp g1 := s1
  have e1 : IsEnum g1 e it i old := (s1.2 e hne).trans he
  show wpAny _ _ (field (.ref e) 3 >>= _) _ _ ⟨g1, g, d, tk, os⟩
  apply wpAny_bind
  apply wpAny_field e1 rfl (x := rawInt i) rfl
  show wpAny _ _ (field (.ref e) 4 >>= _) _ _ ⟨g1, g, d, tk, os⟩
  apply wpAny_bind
  apply wpAny_field e1 rfl (x := .none) rfl
  show wpAny _ _ (mkInt i >>= _) _ _ ⟨g1, g, d, tk, os⟩
  refine wpAny_bind (wpAny_mkInt ?_)
  show wpAny _ _ (setField (.ref e) 3 (rawInt ((i : Int) + 1)) >>= _) _ _ ⟨g1, g, d, tk + 1, os⟩
  apply wpAny_bind
  refine wpAny_setField_rec e1 (by simp) fun g2 e2 s2 => ?_
  replace s2 : Heap.SameBut e g1 g2 := s2
  replace e2 : IsEnum g2 e it ((i : Int) + 1) old := e2
  show wpAny _ _ (setField (.ref e) 4 .none >>= _) _ _ ⟨g2, g, d, tk + 1, os⟩
  apply wpAny_bind
  refine wpAny_setField_rec e2 (by simp) fun g3 e3 s3 => ?_
  replace s3 : Heap.SameBut e g2 g3 := s3
  replace e3 : IsEnum g3 e it ((i : Int) + 1) old := e3
  show wpAny _ _ (newTuple [.int i tk, x] >>= _) _ _ ⟨g3, g, d, tk + 1, os⟩
  refine wpAny_bind (wpAny_newTuple ?_)
  have hsz : g3.objs.size = hp.objs.size := by rw [s3.1, s2.1, s1.1]
  have hel : e < hp.objs.size := Heap.lt_size he
  have c3 : ∀ b o, b ≠ e → b ≠ it → hp.get? b = some o → g3.get? b = some o := fun b o n1 n2 q => s3.extBut b o n1 (s2.extBut b o n1 (s1.extBut b o n2 q))
  have j3 : itA g3 it l (i + 1) := SA.itAt j1 fun o q => s3.extBut _ _ (Ne.symm hne) (s2.extBut _ _ (Ne.symm hne) q)
  have e4 : IsEnum (g3.push { cls := .type "tuple", data := .seq #[.int i tk, x] }) e it ((i : Int) + 1) old := Heap.get?_push_of_some _ e3
  have t4 : (g3.push { cls := .type "tuple", data := .seq #[.int i tk, x] }).get? hp.objs.size = some { cls := .type "tuple", data := .seq #[.int i tk, x] } := by rw [← hsz]; exact Heap.get?_push_size _ rfl
  have z4 : (g3.push { cls := .type "tuple", data := .seq #[.int i tk, x] }).objs.size = hp.objs.size + 1 := by rw [Heap.size_push, hsz]
  have c4 : ∀ b o, b ≠ e → b ≠ it → hp.get? b = some o → (g3.push { cls := .type "tuple", data := .seq #[.int i tk, x] }).get? b = some o := fun b o n1 n2 q => Heap.get?_push_of_some _ (c3 b o n1 n2 q)
  have j4 : itA (g3.push { cls := .type "tuple", data := .seq #[.int i tk, x] }) it l (i + 1) := SA.itAt j3 fun o q => Heap.get?_push_of_some _ q
  show wpAny _ _ (Builtin.SmallTypes.ownedTupleIsFree (.ref e) >>= _) _ _ ⟨g3.push { cls := .type "tuple", data := .seq #[.int i tk, x] }, g, d, tk + 1, os⟩
  rw [hsz]
  generalize g3.push { cls := .type "tuple", data := .seq #[.int i tk, x] } = g4 at e4 t4 z4 c4 j4 ⊢
  apply wpAny_bind
  unfold Builtin.SmallTypes.ownedTupleIsFree
  apply wpAny_bind
  apply wpAny_field e4 rfl (x := .none) rfl
  apply wpAny_pure
  simp only [if_true]
  apply wpAny_bind
  apply wpAny_rule
  apply wpAny_bind
  apply wpAny_field e4 rfl (x := old) rfl
  apply wpAny_bind
  refine wpAny_setField_rec e4 (by simp) fun g5 e5 s5 => ?_
  replace s5 : Heap.SameBut e g4 g5 := s5
  replace e5 : IsEnum g5 e it ((i : Int) + 1) x := e5
  show wpAny _ _ (Builtin.SmallTypes.ownedTupleHandOut (.ref e) (.ref hp.objs.size) >>= _) _ _ ⟨g5, g, d, tk + 1, os⟩
  apply wpAny_bind
  unfold Builtin.SmallTypes.ownedTupleHandOut
  apply wpAny_bind
  refine wpAny_setField_rec e5 (by simp) fun g6 e6 s6 => ?_
  replace s6 : Heap.SameBut e g5 g6 := s6
  replace e6 : IsEnumOut g6 e it ((i : Int) + 1) x hp.objs.size := e6
  refine wpAny_setField_rec e6 (by simp) fun g7 e7 s7 => ?_
  replace s7 : Heap.SameBut e g6 g7 := s7
  replace e7 : IsEnumOut g7 e it ((i : Int) + 1) x hp.objs.size := e7
  have up : ∀ b o, b ≠ e → g4.get? b = some o → g7.get? b = some o := fun b o n q => s7.extBut _ _ n (s6.extBut _ _ n (s5.extBut _ _ n q))
  refine wpAny_bind (wpAny_letGo (wpAny_pure ⟨_, rfl, hQ g7 e7 (SA.itAt j4 fun o q => up _ o (Ne.symm hne) q) (up _ _ (Nat.ne_of_gt hel) t4) (by rw [s7.1, s6.1, s5.1, z4]) fun b o n1 n2 q => up b o n1 (c4 b o n1 n2 q)⟩))
theorem pyNext_enumG {Q : Option Value → Shared → Prop} (SA : SqIt itA sqA) (he : IsEnum s.heap e it i old) (hit : itA s.heap it l i) (hl : sqA s.heap l items) (hx : items[i]? = some x) (hne : e ≠ it)
    (hQ : ∀ h', IsEnumOut h' e it ((i : Int) + 1) x s.heap.objs.size → itA h' it l (i + 1) → h'.get? s.heap.objs.size = some { cls := .type "tuple", data := .seq #[.int i s.toks, x] } → h'.objs.size = s.heap.objs.size + 1 →
      (∀ b o, b ≠ e → b ≠ it → s.heap.get? b = some o → h'.get? b = some o) → Q (some (.ref s.heap.objs.size)) { s with heap := h', toks := s.toks + 1 }) : wpAny (model prog w) A (pyNext (.ref e)) Q E s := by
  have hT : s.TypeIs (.ref e) "enumerate" := ⟨_, he, rfl⟩
  unfold pyNext
  apply wpAny_bind
  apply wpAny_attempt
  refine wpAny_callSpecial?_slot (name := Str.ofString "__next__") hT F.slot_enumerate_next (wpAny_call_entry F.slot_enumerate_next hT F.entry_enumerate_next ?_ (F.args_enumerate_next_1 _))
  exact enumG_item SA he hit hl hx hne fun h' a b c d k => wpAny_pure (hQ h' a b c d k)
theorem pyNext_enumG_end {Q : Option Value → Shared → Prop} (hh : A.handled = none) (SA : SqIt itA sqA) (he : IsEnum s.heap e it i old) (hit : itA s.heap it l i) (hl : sqA s.heap l items) (hx : items[i]? = none)
    (hQ : ∀ h', Heap.ExtBut it s.heap h' → Q none { s with heap := h' }) : wpAny (model prog w) A (pyNext (.ref e)) Q E s := by
  have hT : s.TypeIs (.ref e) "enumerate" := ⟨_, he, rfl⟩
  unfold pyNext
  apply wpAny_bind
  apply wpAny_attempt
  refine wpAny_callSpecial?_slot (name := Str.ofString "__next__") hT F.slot_enumerate_next (wpAny_call_entry F.slot_enumerate_next hT F.entry_enumerate_next ?_ (F.args_enumerate_next_1 _))
  show wpAny _ _ (field (.ref e) 2 >>= _) _ _ _
  apply wpAny_bind
  apply wpAny_field he rfl (x := .ref it) rfl
  apply wpAny_bind
  refine SA.stop hh hit hl hx fun h' x he' ⟨o, ho, hc⟩ => ?_
  exact wpAny_bind (wpAny_isInstance (T := "StopIteration") (b := true) ⟨o, ho, hc⟩ isSubtype_stop (wpAny_pure (hQ _ he')))
end
def en1 (h : Heap) (l : Addr) : Heap := h.push { cls := .type "tuple_iterator", data := .fields #[.ref l, .int 0 0] }
def en2 (h : Heap) (l : Addr) : Heap := (en1 h l).push { cls := .type "enumerate", data := .fields #[.none, .bool false, .ref h.objs.size, rawInt 0, .none, .none] }
theorem en_new (l : Addr) (items : Array Value) :
    Meets (Builtin.«enumerate.__new__» ⟨[.type "enumerate", .ref l], []⟩) (fun _ R s => s.heap.IsTuple l items ∧ R (.ok (.ret (.ref (en1 s.heap l).objs.size))) { s with heap := en2 s.heap l }) :=
  .of_wp fun prog w A R s h => by
    obtain ⟨hp, g, d, tk, os⟩ := s
    obtain ⟨hl, h⟩ := h
    have hsub := sub_enumerate
    have hL : Heap.IsTuple (Shared.heap ⟨hp, g, d, tk, os⟩) l items := hl
    wp_walk
    refine wpAny_stack_any fun st => wpAny_pure ?_
    split
    · rename_i c _ _ _ _ _
      cases (c == Value.type "enumerate")
      · wp_walk using wpAny_pyIter_tuple hL
        exact ⟨_, rfl, h⟩
      · wp_walk using wpAny_pyIter_tuple hL
        exact ⟨_, rfl, h⟩
    · wp_walk using wpAny_pyIter_tuple hL
      exact ⟨_, rfl, h⟩
end Den
set_option Elab.async false
set_option linter.all false
set_option maxRecDepth 100000
set_option maxHeartbeats 4000000
namespace Den
open PySem PySem.Spec PyProof.Rows L2 RZ
section
variable {prog : Program} {w : World} {A : Around} {E : Value → Shared → Prop} {s : Shared}
theorem call_enumT {l : Addr} {items : Array Value} {Q : Value → Shared → Prop} (hL : s.heap.IsTuple l items)
    (h : ∀ h', IsEnum h' (s.heap.objs.size + 1) s.heap.objs.size 0 .none → h'.IsTupleIter s.heap.objs.size l 0 → h'.objs.size = s.heap.objs.size + 2 → (∀ b o, s.heap.get? b = some o → h'.get? b = some o) → Q (.ref (s.heap.objs.size + 1)) { s with heap := h' }) :
    wpAny (model prog w) A (call (.type "enumerate") [.ref l]) Q E s := by
  refine callType_new F.called_enumerate (by decide) (F.typeCall_enumerate_1 _) (F.newCall_enumerate_1 _) (fun obj => F.args_object_init_2 obj _) F.entry_enumerate_new (en_new l items) ⟨hL, ?_⟩
  have n1 : (en1 s.heap l).objs.size = s.heap.objs.size + 1 := Heap.size_push ..
  have n2 : (en2 s.heap l).objs.size = s.heap.objs.size + 2 := by rw [en2, Heap.size_push, n1]
  have k1 : ∀ b o, (en1 s.heap l).get? b = some o → (en2 s.heap l).get? b = some o := fun b o e => Heap.get?_push_of_some _ e
  have g2 : (en2 s.heap l).get? (en1 s.heap l).objs.size = some _ := Heap.get?_push_size _ rfl
  have g1 : (en2 s.heap l).get? s.heap.objs.size = some _ := k1 _ _ (Heap.get?_push_size _ rfl)
  show _ ∧ _
  rw [n1] at g2
  rw [n1]
  exact ⟨⟨_, g2, rfl⟩, h _ g2 ⟨_, g1, rfl, rfl⟩ n2 fun b o x => k1 _ _ (Heap.get?_push_of_some _ x)⟩
end
def IteT (K : PySem.W.Frag) (a : Addr) : It :=
  ⟨fun i H => ∃ (xs : List V) (x : V), SqT K H a xs ∧ xs[i]? = some x, fun i H v H' => ∃ T x, v = .ref T ∧ H T = none ∧ H' = upd H T (.tup [.int (i : Nat), x]) ∧ ∀ xs, SqT K H a xs → xs[i]? = some x, fun i H => ∃ xs : List V, SqT K H a xs ∧ xs.length ≤ i⟩
theorem two {p : Addr → Prop} {e it : Addr} (h1 : p e) (h2 : p it) : ∀ c ∈ [e, it], p c := by
  intro c hc
  have q : c = e ∨ c = it := by simpa using hc
  rcases q with q | q <;> (rw [q]; assumption)
theorem turn_enumT {P : Program} {w : World} {K : PySem.W.Frag} {elts : List Expr} {kk : Nat} {tpos : Pos} (a e it : Addr) :
    Turn P w K (.Tuple elts kk tpos) (IteT K a) [e, it] e (fun i h => (∃ old, IsEnum h e it ((i : Nat) : Int) old) ∧ h.IsTupleIter it a i ∧ e ≠ it) where
  mem := by simp
  obj := fun i h ⟨⟨old, he⟩, hi, _⟩ => two (p := fun c => ∃ o, h.get? c = some o ∧ ∀ v, o.data ≠ .cell v) ⟨_, he, fun v q => nomatch q⟩ (sqIt_T.obj hi)
  keep := fun i h h' ⟨⟨old, he⟩, hi, hne⟩ k => ⟨⟨old, k e (by simp) _ he⟩, hi.at fun o q => k it (by simp) o q, hne⟩
  item := by
    intro X hP hw hK hc i pins s σ H E I hf ⟨⟨old, he⟩, hit, hne⟩ ⟨xs, x, hq, hx⟩
    subst hP hw hK
    obtain ⟨its, rv, p, _⟩ := I.tuple hq
    obtain ⟨u, hu, ru⟩ := rv.get hx
    have hel : e < s.heap.objs.size := Heap.lt_size he
    have hil : it < s.heap.objs.size := by obtain ⟨_, q, _⟩ := sqIt_T.obj hit; exact Heap.lt_size q
    refine pyNext_enumG sqIt_T he hit p (x := u) (by simpa using hu) hne fun h' ho j hT hsz hk => ?_
    refine ⟨_, rfl, wpAny_letOwnedTupleGo_enum (s := { s with heap := h', toks := s.toks + 1 }) ho fun h'' he' sb => ?_⟩
    have hT2 : h''.get? s.heap.objs.size = some { cls := .type "tuple", data := .seq #[.int i s.toks, u] } := (sb.2 _ (Nat.ne_of_gt hel)).trans hT
    have new : ObjOk X.prog X.w (upd H s.heap.objs.size (.tup [.int (i : Nat), x])) h'' s.heap.objs.size (.tup [.int (i : Nat), x]) := ⟨by show 2 ≤ sizeLine; decide, [.int i s.toks, u], .cons ⟨_, rfl⟩ (.cons ru .nil), ⟨_, hT2, rfl, _, rfl⟩⟩
    have I1 : Inv X pins σ (upd H s.heap.objs.size (.tup [.int (i : Nat), x])) { s with heap := h'', toks := s.toks + 1 } :=
      I.turnedNew (ch := [e, it]) (fun b ob hb q => (sb.2 b (fun z => hb (by simp [z]))).trans (hk b ob (fun z => hb (by simp [z])) (fun z => hb (by simp [z])) q)) hf (Nat.le_refl _) new
    refine ⟨.ref s.heap.objs.size, _, I1, rfl, ⟨_, x, rfl, I.hok.fresh (Nat.le_refl _), rfl, fun ys hy => by rw [I.tuple_inj hy hq]; exact hx⟩, ⟨⟨u, ?_⟩, j.at fun o q => (sb.2 it (Ne.symm hne)).trans q, hne⟩, fun b hb => ?_⟩
    · have e1 : ((i + 1 : Nat) : Int) = (i : Int) + 1 := by omega
      rw [e1]; exact he'
    · rw [upd_ne (Nat.ne_of_lt (two (p := fun c => c < s.heap.objs.size) hel hil b hb))]
      exact (hf b hb).1
  done := by
    intro X hP hw hK hc i pins s σ H E I hf ⟨⟨old, he⟩, hit, hne⟩ ⟨xs, hq, hx⟩
    subst hP hw hK
    obtain ⟨its, rv, p, _⟩ := I.tuple hq
    obtain ⟨f0, f1, f2, f3, f4, f5⟩ := hf it (by simp)
    have hl := rv.length
    exact pyNext_enumG_end (I.ok.hd hc) sqIt_T he hit p (by simp; omega) fun h' eb => ⟨rfl, I.turned (t' := s.toks) (fun b o hb q => eb b o hb q) f0 f1 f3 f4 f5⟩
  self := fun A i s Q E st h => let ⟨⟨_, he⟩, _⟩ := st; wpAny_pyIter_enum he h
def iEnumT (K : PySem.W.Frag) (ta : TA) : TI := fun σ H R => ta σ H fun vs H1 => ∃ a xs, vs = [.ref a] ∧ SqT K H1 a xs ∧ R (IteT K a) H1
theorem pi_enumT {X : Cx} {e : Expr} {ta : TA} {p pos tpos : Pos} {elts : List Expr} {kk : Nat} (hg : Gl X "enumerate") (hm : X.mg "enumerate" = none) (ha : PA X [e] ta) (hs : starEach [e] X.env = [(false, eval e X.env)] := by rfl) :
    PI X (.Tuple elts kk tpos) (.Call (.Name "enumerate" p) [e] [] pos) (iEnumT X.K ta) := by
  refine ⟨fun pins s σ H R I h => ?_⟩
  refine Call_ (ld_blt I hg hm boot_enumerate (PyProof.Rows.callWith_type1 (thn (ha.run pos pins s σ H _ I h) fun us s1 ⟨vs, H1, I1, r1, a, xs, ex, hq, q⟩ => ?_) hs rfl))
  subst ex
  cases r1 with
  | cons r rr =>
    cases rr
    cases r
    obtain ⟨its, rv, p', _⟩ := I1.tuple hq
    refine call_enumT (show s1.heap.IsTuple a its.toArray from p') fun h' he hit hsz hk => wpAny_pyIter_enum he ?_
    have I2 : Inv X pins σ H1 { s1 with heap := h' } := I1.kept (t' := s1.toks) hk
    have fr : ∀ n, FpOk X pins H1 (s1.heap.objs.size + n) := fun n => I1.fpOk (Nat.le_add_right _ _) (I1.hok.fresh (Nat.le_add_right _ _))
    exact ⟨s1.heap.objs.size + 1, [s1.heap.objs.size + 1, s1.heap.objs.size], _, _, H1, rfl, I2, turn_enumT a (s1.heap.objs.size + 1) s1.heap.objs.size, ⟨⟨.none, he⟩, hit, Nat.succ_ne_self _⟩, two (p := fun c => FpOk X pins H1 c) (fr 1) (fr 0), q⟩
section
variable {K : PySem.W.Frag} {xi : XI} {st : Stx xi}
theorem walkD_enumT {a : Addr} {ds : List D} : WalkD true K st (IteT K a) (enumD ds) [.ref a] [.tup ds] where
  goes := fun S H i hi r => by
    obtain ⟨v, e, rv⟩ := repL1 r
    cases e
    cases rv with
    | tup hs rr =>
      rw [enumD_length] at hi
      obtain ⟨v, h1, h2⟩ := rr.get (i := i) (d := ds[i]) (by simp [hi])
      exact ⟨_, v, hs.sq, h1⟩
  stops := fun S H r => by
    obtain ⟨v, e, rv⟩ := repL1 r
    cases e
    cases rv with
    | tup hs rr => exact ⟨_, hs.sq, by rw [rr.length, enumD_length]; exact Nat.le_refl _⟩
  yields := fun S H i x H' hi r y => by
    obtain ⟨v, e, rv⟩ := repL1 r
    cases e
    cases rv with
    | tup hs rr =>
      obtain ⟨T, u, e1, e2, e3, e4⟩ := y
      subst e1 e3
      obtain ⟨d, h1, h2⟩ := rr.getV (e4 _ hs.sq)
      exact ⟨_, enumD_get h1, Chg.new e2, pair_new e2 (.int _) h2⟩
end
def dEnumT : List D → M (List D)
  | [.tup xs] => pure (enumD xs)
  | _ => M.bad
theorem dEnumT_or (ds : List D) : (∃ xs, ds = [.tup xs] ∧ dEnumT ds = pure (enumD xs)) ∨ dEnumT ds = M.bad := by
  match ds with
  | [] => exact .inr rfl
  | [d] => cases d <;> first | exact .inl ⟨_, rfl, rfl⟩ | exact .inr rfl
  | d :: _ :: _ => cases d <;> exact .inr rfl
theorem jEnT {X : Cx} {W : WX} {a : Expr} {p pos tpos : Pos} {elts : List Expr} {kk : Nat} {A : EV → M (List D)} (hm : X.mg "enumerate" = none) (ha : SA X W [a] A) (hg : Gl X "enumerate" := by rfl) (hs : starEach [a] X.env = [(false, eval a X.env)] := by rfl) :
    SI true X W (.Tuple elts kk tpos) (.Call (.Name "enumerate" p) [a] [] pos) (iG dEnumT A) := by
  refine ⟨PI.imp (pi_enumT hg hm ha.pa hs) fun σ H Q ⟨st, S, ρ, m, cv, er, o⟩ => ?_⟩
  refine TAD.bindI (G := dEnumT) cv er o fun vs ds m1 H1 c1 cv1 er1 r1 o1 => ?_
  rcases dEnumT_or ds with ⟨xs, e1, e2⟩ | e2
  · rw [e2] at o1
    subst e1
    obtain ⟨v, ev, rv⟩ := repL1 r1
    subst ev
    have r0 := rv
    cases rv with
    | tup hs rr => exact ⟨_, _, rfl, hs.sq, o1 _ _ _ H1 (Chg.refl _) cv1 (.cons r0 .nil) walkD_enumT⟩
  · rw [e2] at o1; exact o1.elim
end Den
set_option Elab.async false
set_option linter.all false
set_option maxRecDepth 100000
set_option maxHeartbeats 4000000
namespace Den
open PySem PySem.Spec PyProof.Rows L2
end Den
set_option Elab.async false
set_option linter.all false
set_option maxRecDepth 100000
set_option maxHeartbeats 4000000
namespace Den
open PySem PySem.Spec PyProof.Rows L2 RZ
abbrev itObjT (t : Addr) : Obj := { cls := .type "tuple_iterator", data := .fields #[.ref t, .int 0 0] }
def ItT (t it : Addr) : HO := .ext fun h => h.get? it = some (itObjT t)
theorem itT_ok {P : Program} {w : World} {H : Hp} {h : Heap} {t it : Addr} (e : h.get? it = some (itObjT t)) : ObjOk P w H h it (ItT t it) := ⟨e, ⟨_, e⟩, fun h1 h2 q k => k _ q⟩
theorem itT_get {X : Cx} {pins : List (Addr × Obj)} {σ : L2.St} {H : Hp} {s : Shared} {t it : Addr} (I : Inv X pins σ H s) (e : H it = some (ItT t it)) : s.heap.get? it = some (itObjT t) := (I.hok it _ e).1
def rIterT (K : PySem.W.Frag) (n : Nat) : List V → Hp → VK → Prop := fun xs H Q => ∃ (t : Addr) (zs : List V), xs = [.ref t] ∧ SqT K H t zs ∧ ∀ it, H it = none → n ≤ it → Q (.ref it) (upd H it (ItT t it))
theorem call_iterT0 {prog : Program} {w : World} {A : Around} {E : Value → Shared → Prop} {s : Shared} {t : Addr} {items : Array Value} {Q : Value → Shared → Prop} (hl : s.heap.IsTuple t items) (h : Q (.ref s.heap.objs.size) { s with heap := s.heap.push (itObjT t) }) : wpAny (model prog w) A (call (.builtin "iter") [.ref t]) Q E s := by
  refine Calls.call_function_entry (by decide +kernel) (by decide +kernel) PySem.W.kdk_entry_iter (PySem.W.kdk_args_iter _) ?_
  unfold Builtin.«iter»
  refine wpAny_bind (m := someArgs "iter" 1 2 _) (wpAny_of_eq (a := [Value.ref t]) (by first | rfl | kernel_rfl!) ?_)
  show wpAny _ _ (pyIter (.ref t) >>= _) _ _ _
  refine wpAny_bind (wpAny_pyIter_tuple hl ?_)
  exact wpAny_pure ⟨_, rfl, h⟩
theorem call_iterT {X : Cx} : CallR X (.builtin "iter") (rIterT X.K X.s_0.heap.objs.size) := by
  intro pins s σ H xs us Q I r h
  obtain ⟨t, zs, rfl, hq, q⟩ := h
  cases r with
  | cons ru rr =>
    cases rr
    cases ru
    obtain ⟨its, rv, p, _⟩ := I.tuple hq
    refine call_iterT0 (show s.heap.IsTuple t its.toArray from p) ?_
    exact ⟨.ref s.heap.objs.size, _, I.laid (t' := s.toks) (fun b u e => Heap.get?_push_of_some _ e) (Nat.le_refl _) (itT_ok (Heap.get?_push_size _ rfl)), rfl, q _ (I.hok.fresh (Nat.le_refl _)) I.sz⟩
/-- a def, run from where it is called: what it promises may tell how much there was -/
theorem fn_ofI {P : Program} {w : World} {K : PySem.W.Frag} {mg : Str → Option Value} {base : Heap} {k : Nat} {f : Addr} {nm ql : Str} {pr : Arguments} {bd : List Stmt} {sc : Scope} {dV kV dc pm cdv ct oc : Value} {an od : Option Addr} {sl : Array (Option Value)} {N ps : List Str} {sp : Nat → Sp}
    (lk : K.lookup f = some ⟨oc, od, .func (PySem.W.fnOf nm ql pr bd sc dV kV dc pm an cdv ct), sl⟩) (hcd : PySem.W.codeIn K cdv ql = true) (Z : FnScope N ps sc) (len : ∀ n vs H Q E, sp n vs H Q E → vs.length = ps.length)
    (hb : ∀ (A : Around) (ou : List Env) (s : Shared) (H : Hp) (vs : List V) (Q : VK) (E : XK), Room k (A.deeper (envOfC ql sc s.heap.objs.size f cdv)) → sp s.heap.objs.size vs H Q E →
      ∃ t, PSs (cxOf (L2N.CX P w) P w K mg base N ql sc f cdv A ou s H E) bd t ∧ t { nx := fun _ H' => Q .non H', rt := Q } (start N vs) H)
    (A : Around) (ou : List Env) (s : Shared) (H : Hp) (ar : Args) (us : List Value) (vs : List V) (Q : VK) (E : XK) (hr : Room (k + 1) A) (e0 : Env0 P w K mg base A ou s H) (hbd : BindsTo s (PySem.W.fnOf nm ql pr bd sc dV kV dc pm an cdv ct) ar (ps.zip us)) (rv : Vals vs us) (hsp : sp s.heap.objs.size vs H Q E) :
    codeAny (model P w) A (.call (.ref f) ar) (CR (L2N.CX P w) ou P w H s Q E) s := by
  have kin : K.In s.heap := e0.mod.kin.keeps fun b o z => (e0.bs b o z).1
  have nol : s.heap.NoLimit := e0.mod.nolimit.keeps fun b o z => (e0.bs b o z).1
  have kinds : ∀ y ∈ ps.zip us, sc.names.lookup y.1 = some .local ∨ (sc.names.lookup y.1 = some .cell ∧ ((cellsFrom (s.heap.objs.size + 1) sc.names []).lookup y.1).isSome = true) := by
    intro y hy
    obtain ⟨yn, yv⟩ := y
    have my := (List.of_mem_zip hy).1
    rcases Z.par yn my with z | z
    · left; exact z
    · right; exact And.intro z (PySem.W.cellsFrom_some _ _ _ (Or.inl z))
  refine codeAny_call_function hr.depth (kin _ _ lk) rfl Z.co Z.gen rfl (PySem.W.codeRec_of kin hcd) (hbd _ _ _ _ (wpAny_newFunctionEnv_cells Z.kind kinds fun en hen s1 x => ?_))
  subst hen
  refine And.intro (nol.keeps x.toInCall.keep) (codeAny_func ?_)
  obtain ⟨t, pt, ht⟩ := hb A ou s H vs Q E (hr.deeper _) hsp
  have i0 : Inv (cxOf (L2N.CX P w) P w K mg base N ql sc f cdv A ou s H E) [] (start N vs) H s1 := inv_start Z hr.hd e0 (len _ _ _ _ _ hsp) rv x
  refine wpAny_mono (pt.run [] s1 (start N vs) H _ i0 ht) (fun fl s2 z => ?_) fun _ _ z => z
  match fl, z with
  | .ret u, ⟨v, σ', H', j, r, q⟩ => exact ⟨v, H', j.os, j.bare, j.base, j.hok, r, q⟩
  | .next, ⟨σ', H', j, q⟩ => exact ⟨.non, H', j.os, j.bare, j.base, j.hok, rfl, q⟩
  | .brk, ⟨_, _, _, q⟩ => exact q.elim
  | .cont, ⟨_, _, _, q⟩ => exact q.elim
/-- what __iter__ promises: g tells the tuple; n: how much there is when it is called -/
def spIt (n : Nat) (K : PySem.W.Frag) (g : List D → M D) : Sp := fun vs H Q E => spOf K g vs H (fun v H' => ∃ t xs, v = .ref t ∧ SqT K H' t xs ∧ ∀ it, H' it = none → n ≤ it → Q (.ref it) (upd H' it (ItT t it))) E
structure FnIt (P : Program) (w : World) (K : PySem.W.Frag) (mg : Str → Option Value) (base : Heap) (CX : CXT) (k : Nat) (f : Addr) (fd : FuncData) (ps : List Str) (g : List D → M D) : Prop where
  len : ∀ n vs H Q E, spIt n K g vs H Q E → vs.length = ps.length
  run : ∀ (A : Around) (outer : List Env) (s : Shared) (H : Hp) (args : Args) (us : List Value) (vs : List V) (Q : VK) (E : XK), Room k A → Env0 P w K mg base A outer s H → BindsTo s fd args (ps.zip us) → Vals vs us → spIt s.heap.objs.size K g vs H Q E →
    codeAny (model P w) A (.call (.ref f) args) (CR CX outer P w H s Q E) s
structure MthI (P : Program) (w : World) (K : PySem.W.Frag) (mg : Str → Option Value) (base : Heap) (k : Nat) (c m : Str) (ps : List Str) (g : List D → M D) : Prop where
  ex : ∃ (fa : Addr) (fd : FuncData), Meth K (He.ga K c) m fa ∧ Binds K fd ps [] ∧ FnIt P w K mg base (L2N.CX P w) k fa fd ps g
theorem fn_it {P : Program} {w : World} {K : PySem.W.Frag} {mg : Str → Option Value} {base : Heap} {x qual : Str} {params : Arguments} {e : Expr} {p pos pos' : Pos} {scope : Scope} {dvs : List V} {kws : List (Str × V)} {f : Addr} {fd : FuncData} {N ps : List Str} {k : Nat} {G : EV → M D}
    (F : FunD K x qual params [.Return (some (.Call (.Name "iter" p) [e] [] pos)) pos'] scope dvs kws f fd) (Sc : FnScope N ps scope) (hm : mg "iter" = none) (he : ∀ env, starEach [e] env = (false, eval e env) :: starEach [] env) (hg : ∀ cdv A outer s H E, Gl (cxOf (L2N.CX P w) P w K mg base N qual scope f cdv A outer s H E) "iter")
    (hb : ∀ (cdv : Value) (A : Around) (outer : List Env) (s : Shared) (H : Hp) (E : XK), Room k (A.deeper (envOfC qual scope s.heap.objs.size f cdv)) → SE (cxOf (L2N.CX P w) P w K mg base N qual scope f cdv A outer s H E) (wE E) e G) :
    FnIt P w K mg base (L2N.CX P w) (k + 1) f fd ps (runF ps.length N.length (gRet G)) := by
  have body : ∀ (cdv : Value) (A : Around) (outer : List Env) (s : Shared) (H : Hp) (E : XK), Room k (A.deeper (envOfC qual scope s.heap.objs.size f cdv)) →
      PE (cxOf (L2N.CX P w) P w K mg base N qual scope f cdv A outer s H E) (.Call (.Name "iter" p) [e] [] pos) (fun σ H Q => TE none K (wE E) G σ H fun v H1 => rIterT K s.heap.objs.size [v] H1 Q) := by
    intro cdv A outer s H E hr
    have z := hb cdv A outer s H E hr
    have a1 : SA (cxOf (L2N.CX P w) P w K mg base N qual scope f cdv A outer s H E) (wE E) [e] (aC G aN) := aCons z aNil (he _)
    have pe := pe_callB (pos := pos) (p := p) (x := "iter") call_iterT (hg cdv A outer s H E) (show (cxOf (L2N.CX P w) P w K mg base N qual scope f cdv A outer s H E).mg "iter" = none from hm) (by kernel_rfl) a1.pa (by decide) (by decide) (he _)
    have hp := pe
    rw [xi_room (X := cxOf (L2N.CX P w) P w K mg base N qual scope f cdv A outer s H E) hr] at hp
    refine PE.imp hp fun σ H1 Q ⟨st, S, ρ, m, cv, er, o⟩ => ?_
    refine ⟨st, S, ρ, m, cv, er, ?_⟩
    show OutL K st S H1 ((aC G aN) ρ m) _ _
    unfold aC aN
    rw [bind_run]
    cases q : G ρ m with
    | bad => rw [q] at o; exact o.elim
    | err c fs m1 => rw [q] at o; exact o
    | ok d m1 =>
      rw [q] at o
      intro vs H2 c2 cv2 r2
      obtain ⟨v, ev, rv⟩ := repL1 r2
      subst ev
      exact o v H2 c2 cv2 rv
  have len : ∀ n vs H Q E, spIt n K (runF ps.length N.length (gRet G)) vs H Q E → vs.length = ps.length := by
    intro n vs H Q E ⟨st, S, ds, m, cv, r, o⟩
    unfold runF at o
    by_cases h : ds.length = ps.length
    · rw [r.length, h]
    · rw [if_neg h] at o; exact o.elim
  refine ⟨len, ?_⟩
  obtain ⟨oc, od, dV, kV, doc, pm, an, cdv, ct, osl, efd, lk, hcd, _, _⟩ := F.ex
  subst efd
  refine fn_ofI lk hcd Sc len fun A outer s H vs Q E hr ⟨st, S, ds, m, cv, r, o⟩ => ⟨_, pss_one (ps_ret (body cdv A outer s H E hr)), ?_⟩
  · unfold runF at o
    by_cases h : ds.length = ps.length
    case neg => rw [if_neg h] at o; exact o.elim
    rw [if_pos h] at o
    have hl : vs.length = ps.length := r.length.trans h
    have noOwn : ∀ i a, ¬ OwnAt (ds.map .va ++ List.replicate (N.length - ps.length) .no) (L2.start N vs) i a := fun i a ⟨⟨s, h1, h2⟩, _⟩ => by
      have hm := List.mem_of_getElem? h1
      rcases List.mem_append.mp hm with hm | hm
      · obtain ⟨d, _, e⟩ := List.mem_map.mp hm
        rw [← e] at h2; cases h2
      · rw [(List.mem_replicate.mp hm).2] at h2; cases h2
    have low : ∀ (i : Nat) (sl : Sl), (ds.map Sl.va ++ List.replicate (N.length - ps.length) Sl.no)[i]? = some sl → (∃ d, ds[i]? = some d ∧ sl = .va d) ∨ sl = .no := fun i sl h1 => by
      by_cases hi : i < ds.length
      · rw [List.getElem?_append_left (by simpa using hi), List.getElem?_map] at h1
        obtain ⟨d, h2, h3⟩ := Option.map_eq_some_iff.mp h1
        exact .inl ⟨d, h2, h3.symm⟩
      · rw [List.getElem?_append_right (by simpa using hi)] at h1
        exact .inr (List.mem_replicate.mp (List.mem_of_getElem? h1)).2
    have kk : Kept K st S H H m := ⟨cv, cv.dom, Chg.refl H⟩
    have ee : EnvS K st S H H (L2.start N vs) (ds.map .va ++ List.replicate (N.length - ps.length) .no) := by
      refine ⟨fun i d h1 => ?_, fun i xs h1 => ?_, fun i c fs h1 => ?_, fun i j a oi => (noOwn i a oi).elim, ?_⟩
      · rcases low i _ h1 with ⟨d', h2, h3⟩ | h3
        · cases h3
          obtain ⟨v, g1, g2⟩ := r.get h2
          refine ⟨v, ?_, g2.mono (B := noB) (Chg.refl H) (fun _ z => z.elim) fun a z => z.elim id fun ⟨i, oi⟩ => (noOwn i a oi).elim⟩
          unfold L2.start
          rw [List.getElem?_append_left (by simpa using (List.getElem?_eq_some_iff.mp g1).1), List.getElem?_map, g1]; rfl
        · cases h3
      · rcases low i _ h1 with ⟨d', h2, h3⟩ | h3 <;> cases h3
      · rcases low i _ h1 with ⟨d', h2, h3⟩ | h3 <;> cases h3
      · unfold L2.start
        simp [hl, h]
    have os : OutS K (wE E) st S H H (L2.start N vs) (ds.map .va ++ List.replicate (N.length - ps.length) .no) (gRet G (ds.map .va ++ List.replicate (N.length - ps.length) .no) m) { nx := fun _ H' => (fun v H' => ∃ t xs, v = V.ref t ∧ SqT K H' t xs ∧ ∀ it, H' it = none → s.heap.objs.size ≤ it → Q (.ref it) (upd H' it (ItT t it))) .non H', rt := fun v H' => ∃ t xs, v = .ref t ∧ SqT K H' t xs ∧ ∀ it, H' it = none → s.heap.objs.size ≤ it → Q (.ref it) (upd H' it (ItT t it)) } := by
      cases q : gRet G (ds.map .va ++ List.replicate (N.length - ps.length) .no) m with
      | bad => rw [q] at o; exact o.elim
      | err c fs m1 => rw [q] at o; exact o.elim
      | ok f m1 =>
        rw [q] at o
        cases f with
        | nx ρ1 => exact fun σ1 H1 k1 e1 p1 => o .non H1 k1.chg k1.cov .non
        | rt d => exact fun v H1 k1 r1 => o v H1 k1.chg k1.cov r1
        | rf d => exact fun p vs H1 n1 k1 h1 r1 => o _ H1 k1.chg k1.cov (.lst (k1.not n1) h1 (r1.mono (B := noB) (Chg.refl H1) (fun _ z => z.elim) fun a z => .inl z))
        | ex c fs ρ1 => exact fun dd fv σ1 H1 k1 e1 h1 h2 r1 => o dd fv H1 k1.chg k1.cov h1 h2 r1
        | bk ρ1 => exact o.elim
        | ct ρ1 => exact o.elim
    show TE none K (wE E) G (L2.start N vs) H fun v H1 => rIterT K s.heap.objs.size [v] H1 Q
    refine TE.stm kk ee os fun v d m1 H1 c1 k1 cv1 e1 r1 o1 => ?_
    obtain ⟨t, xs, ev, hq, q⟩ := o1 v H1 k1 (r1.mono (B := noB) (Chg.refl H1) (fun _ z => z.elim) fun a z => .inl z)
    exact ⟨t, xs, by rw [ev], hq, q⟩
section
variable {prog : Program} {w : World} {A : Around} {E : Value → Shared → Prop} {s : Shared}
theorem en_newO {x : Value} {Q : Value → Shared → Prop}
    (h : wpAny (model prog w) A (pyIter x) (fun it s' => Q (.ref s'.heap.objs.size) { s' with heap := s'.heap.push { cls := .type "enumerate", data := .fields #[.none, .bool false, it, rawInt 0, .none, .none] } }) E s) :
    wpAny (model prog w) A (Builtin.«enumerate.__new__» ⟨[.type "enumerate", x], []⟩) (fun fin s' => ∃ v, fin = .done (.ret v) ∧ Q v s') E s := by
  obtain ⟨hp, g, d, tk, os⟩ := s
  have hsub := sub_enumerate
  have q1 : ∀ {R : Value → Shared → Prop}, (∀ it s', Q (.ref s'.heap.objs.size) { s' with heap := s'.heap.push { cls := .type "enumerate", data := .fields #[.none, .bool false, it, rawInt 0, .none, .none] } } → R it s') → wpAny (model prog w) A (pyIter x) R E ⟨hp, g, d, tk, os⟩ :=
    fun k => wpAny_mono h (fun it s' z => k it s' z) fun _ _ z => z
  have fin : ∀ (it : Value) (s' : Shared), Q (.ref s'.heap.objs.size) { s' with heap := s'.heap.push { cls := .type "enumerate", data := .fields #[.none, .bool false, it, rawInt 0, .none, .none] } } →
      wpAny (model prog w) A (do let z ← Builtin.SmallTypes.newRecord (Value.type "enumerate") (Builtin.SmallTypes.ownedTupleFields ++ [it, rawInt 0, Value.none, Value.none]); ret z) (fun fin s' => ∃ v, fin = Fin.done (Flow.ret v) ∧ Q v s') E s' := by
    intro it s' z
    obtain ⟨hp, g, d, tk, os⟩ := s'
    wp_walk
    exact ⟨_, rfl, z⟩
  wp_walk using q1
  refine wpAny_stack_any fun st => wpAny_pure ?_
  split
  · rename_i c _ _ _ _ _
    cases (c == Value.type "enumerate")
    · wp_walk using q1
      exact fin
    · wp_walk using q1
      exact fin
  · wp_walk using q1
    exact fin
theorem call_enumO {x : Value} {Q : Value → Shared → Prop}
    (h : wpAny (model prog w) A.in1.in1 (pyIter x) (fun it s' => Q (.ref s'.heap.objs.size) { s' with heap := s'.heap.push { cls := .type "enumerate", data := .fields #[.none, .bool false, it, rawInt 0, .none, .none] } }) E s) :
    wpAny (model prog w) A (call (.type "enumerate") [x]) Q E s := by
  obtain ⟨c, tl, hmro⟩ := F.called_enumerate.mro
  have hmade := F.called_enumerate.made
  have hsub := F.called_enumerate.sub
  have hct := F.typeCall_enumerate_1 x
  have hcn := F.newCall_enumerate_1 x
  refine wpAny_call (codeAny_of_tree ?_)
  show wpAny _ _ (callAny (.type "enumerate") _) _ _ _
  refine wpAny_pure ⟨Code.quiet_builtin _ (by decide +kernel), codeAny_builtin F.entry_type_call ?_⟩
  rw [Around.under_plain (weight_type_call_type "enumerate" [x] []) (units_type_call_type "enumerate" [x] [])]
  have h1 := F.called_enumerate.notType
  have h2 := F.called_enumerate.canCreate
  repeat (any_goals (first | assumption | wp_step))
  refine codeAny_mono (R := wants (fun obj s₁ => s₁.TypeIs obj "enumerate" ∧ Q obj s₁) E) (codeAny_call_builtin F.called_enumerate.plain F.entry_enumerate_new (wpAny_of_eq hcn (wpAny_mono (en_newO (Q := fun obj s₁ => s₁.TypeIs obj "enumerate" ∧ Q obj s₁) (wpAny_mono h (fun it s' z => ⟨⟨_, Heap.get?_push_size _ rfl, rfl⟩, z⟩) fun _ _ z => z)) (fun fin s' z => ?_) fun _ _ z => z))) fun r s₁ hr => ?_
  · obtain ⟨v, rfl, z⟩ := z
    exact z
  cases r with
  | error e => exact hr
  | ok fl =>
    cases fl with
    | ret obj =>
      obtain ⟨hT, hq⟩ := hr
      have hli := F.called_enumerate.init.lookup
      have hbi := F.called_enumerate.init.bind obj
      repeat (any_goals (first | assumption | wp_step))
      refine codeAny_mono (codeAny_call_builtin F.called_enumerate.init.plain F.entry_object_init (F.called_enumerate.init.check _ _ _ _ _ _ _ _ hT (F.args_object_init_2 obj _) (object_init_meets F.called_enumerate.init.lookup F.called_enumerate.made (by decide) prog w A.in1 (wants (fun r s₂ => r = .none ∧ Q obj s₂) E) s₁ ⟨hT, rfl, hq⟩))) fun r₂ s₂ hr₂ => ?_
      cases r₂ with
      | error e => exact hr₂
      | ok fl₂ =>
        cases fl₂ with
        | ret r =>
          obtain ⟨rfl, hq⟩ := hr₂
          repeat (any_goals (first | assumption | wp_step))
        | _ => exact hr₂.elim
    | _ => exact hr.elim
end
end Den
set_option Elab.async false
set_option linter.all false
set_option maxRecDepth 100000
set_option maxHeartbeats 4000000
namespace Den
open PySem PySem.Spec PyProof.Rows L2 RZ
theorem Out.imp {xi : XI} {K : PySem.W.Frag} {st : Stx xi} {S : Addr → Prop} {H : Hp} {r : R D} {Q Q' : VK} {E : XK} (o : Out K st S H r Q E) (h : ∀ v H', Chg (atSt st) H H' → Q v H' → Q' v H') : Out K st S H r Q' E := by
  cases r with
  | ok d m => exact fun v H' c cv rv => h v H' c (o v H' c cv rv)
  | err c fs m => exact o
  | bad => exact o
theorem Chg.non {B : Addr → Prop} {H H' : Hp} (c : Chg B H H') (a : Addr) (h : H' a = none) : H a = none := by
  cases e : H a with
  | none => rfl
  | some o =>
    rcases c a o e with q | ⟨_, _, o', q, _⟩ <;> (rw [h] at q; cases q)
def dEnumO (c : Str) (g : List D → M D) : List D → M (List D)
  | [d] => do need (isObj c d); let t ← g [d]; dEnumT [t]
  | _ => M.bad
section
variable {X : Cx} {W : WX} {e : Expr} {ta : TA} {p pos tpos : Pos} {elts : List Expr} {kk k : Nat} {c : Str} {ps : List Str} {g : List D → M D} {A : EV → M (List D)}
def iEnumO (K : PySem.W.Frag) (C : Addr) (g : List D → M D) (W : WX) (ta : TA) : TI := fun σ H R => ta σ H fun vs H1 => ∃ a dx fv, vs = [.ref a] ∧ H1 a = some (.ins C dx fv) ∧ spOf K g [.ref a] H1 (fun v H2 => ∃ t xs, v = .ref t ∧ SqT K H2 t xs ∧ R (IteT K t) H2) (WE W σ)
theorem pi_enumO (mc : MthI X.prog X.w X.K X.mg X.base k c "__iter__" ps g) (tk : Takes X W) (hr : Room (k + 2) X.A) (hg : Gl X "enumerate") (hm : X.mg "enumerate" = none) (ha : PA X [e] ta) (hs : starEach [e] X.env = [(false, eval e X.env)] := by rfl) :
    PI X (.Tuple elts kk tpos) (.Call (.Name "enumerate" p) [e] [] pos) (iEnumO X.K (He.ga X.K c) g W ta) := by
  obtain ⟨fa, fd, h1, h2, h3⟩ := mc.ex
  refine ⟨fun pins s σ H R I h => ?_⟩
  refine Call_ (ld_blt I hg hm boot_enumerate (PyProof.Rows.callWith_type1 (thn (ha.run pos pins s σ H _ I h) fun us s1 ⟨vs, H1, I1, r1, a, dx, fv, ex, ea, q⟩ => ?_) hs rfl))
  subst ex
  cases r1 with
  | cons r rr =>
    cases rr
    cases r
    obtain ⟨⟨mm, hF⟩, od, J⟩ := fr_inst I1 ea
    refine call_enumO (PySem.W.owit_iter hF I1.ok.mod.kin J h1.at_ h1.fn ?_)
    have e0 := I1.env0
    have e1 : L2.Env0 X.prog X.w X.K X.mg X.base X.A.in1.in1 X.stack s1 H1 := ⟨e0.frames, e0.mod, e0.bs, e0.bsz, e0.funs, e0.frf, e0.hok, e0.bare⟩
    have spec : spIt s1.heap.objs.size X.K g [.ref a] H1 (fun v H3 => ∃ t xs H2 it, v = .ref it ∧ H3 = upd H2 it (ItT t it) ∧ H2 it = none ∧ s1.heap.objs.size ≤ it ∧ SqT X.K H2 t xs ∧ R (IteT X.K t) H2) (WE W σ) := by
      obtain ⟨st, S, ds, m, cv, r, o⟩ := q
      refine ⟨st, S, ds, m, cv, r, Out.imp o fun v H2 c2 ⟨t, xs, ev, hq, hR⟩ => ⟨t, xs, ev, hq, fun it hn hz => ⟨t, xs, H2, it, rfl, rfl, hn, hz, hq, hR⟩⟩⟩
    have hl := h3.len _ _ _ _ _ spec
    have hbd := h2 s1 [.ref a] I1.kIn (by simpa using hl)
    rw [List.append_nil] at hbd
    have run := h3.run X.A.in1.in1 X.stack s1 H1 ⟨[.ref a], []⟩ [.ref a] [.ref a] _ (WE W σ) (hr.in1 : Room (k + 1) X.A.in1).in1 e1 hbd (.cons (relRef0 a) .nil) spec
    refine wpAny_call (codeAny_mono run fun res s2 z => ?_)
    match res, z with
    | .error ev, z => exact passAt tk σ pins H1 s1 ev s2 I1 z
    | .ok .next, z => exact z.elim
    | .ok .brk, z => exact z.elim
    | .ok .cont, z => exact z.elim
    | .ok (.ret u), z =>
      obtain ⟨v, H3, os, bare, un, hok, rv, t, xs, H2, it, ev, eH, hn2, hsz, hq, hR⟩ := z
      subst ev eH
      cases rv
      obtain ⟨hh, g', d', t', os'⟩ := s2
      obtain rfl : os' = s1.os := os
      have I3 : Inv X pins σ (upd H2 it (ItT t it)) ⟨hh, g', d', t', s1.os⟩ := I1.call (h' := hh) (g' := g') (d' := d') (t' := t') (ch := []) un hok bare (fun b z => absurd z (by simp))
      have hit3 : hh.get? it = some (itObjT t) := itT_get I3 upd_same
      have hT : Shared.TypeIs ⟨hh, g', d', t', s1.os⟩ (.ref it) "tuple_iterator" := ⟨_, hit3, rfl⟩
      unfold PySem.W.OwitIt
      refine wpAny_specialOf hT F.slot_tuple_iterator_next.lookup ?_
      show wpAny _ _ (pyIter (.ref hh.objs.size)) _ _ _
      have he : IsEnum (hh.push { cls := .type "enumerate", data := .fields #[.none, .bool false, .ref it, rawInt 0, .none, .none] }) hh.objs.size it 0 .none := Heap.get?_push_size _ rfl
      have hk : ∀ b o, hh.get? b = some o → (hh.push { cls := .type "enumerate", data := .fields #[.none, .bool false, .ref it, rawInt 0, .none, .none] }).get? b = some o := fun b o x => Heap.get?_push_of_some _ x
      have hit4 := hk _ _ hit3
      generalize hh.push { cls := .type "enumerate", data := .fields #[.none, .bool false, .ref it, rawInt 0, .none, .none] } = h4 at he hk hit4 ⊢
      refine wpAny_pyIter_enum (s := ⟨h4, g', d', t', s1.os⟩) he ?_
      have I4 : Inv X pins σ (upd H2 it (ItT t it)) ⟨h4, g', d', t', s1.os⟩ := I3.kept (t' := t') hk
      have I5 : Inv X pins σ H2 ⟨h4, g', d', t', s1.os⟩ := by
        have z := ItX.inv_drop I4 (a := it) (φ := fun h => h.get? it = some (itObjT t)) upd_same
        rwa [ItX.dropH_upd hn2] at z
      have f1 : FpOk X pins H2 it := by
        have z := ItX.inv_fp I4 (a := it) upd_same (Nat.le_trans I1.sz hsz)
        rwa [ItX.dropH_upd hn2] at z
      have hne : hh.objs.size ≠ it := fun z => by
        have q := Heap.lt_size hit3
        rw [← z] at q
        exact absurd q (Nat.lt_irrefl _)
      have f2 : FpOk X pins H2 hh.objs.size := by
        have z := I3.hok.fresh (Nat.le_refl hh.objs.size)
        rw [upd_ne hne] at z
        exact I3.fpOk (Nat.le_refl _) z
      exact ⟨hh.objs.size, [hh.objs.size, it], _, _, H2, rfl, I5, turn_enumT t hh.objs.size it, ⟨⟨.none, he⟩, ⟨_, hit4, rfl, rfl⟩, hne⟩, two (p := fun c => FpOk X pins H2 c) f2 f1, hR⟩
theorem jEnO (hm : X.mg "enumerate" = none) (mc : MthI X.prog X.w X.K X.mg X.base k c "__iter__" ps g) (tk : Takes X W) (hr : Room (k + 2) X.A) (ha : SA X W [e] A) (hg : Gl X "enumerate" := by rfl) (hs : starEach [e] X.env = [(false, eval e X.env)] := by rfl) :
    SI true X W (.Tuple elts kk tpos) (.Call (.Name "enumerate" p) [e] [] pos) (iG (dEnumO c g) A) := by
  constructor
  have hap := ha.pa
  rw [xi_room hr] at hap ⊢
  refine PI.imp (pi_enumO mc tk hr hg hm hap hs) fun σ H Q ⟨st, S, ρ, m, cv, er, o⟩ => ?_
  refine TAD.bindI (G := dEnumO c g) cv er o fun vs ds m1 H1 c1 cv1 er1 r1 o1 => ?_
  match ds, r1, o1 with
  | [], _, o1 => exact o1.elim
  | _ :: _ :: _, _, o1 => exact o1.elim
  | [d], r1, o1 =>
    obtain ⟨v, ev, rv⟩ := repL1 r1
    subst ev
    obtain ⟨hc, o2⟩ := out_need (P := fun r => OutI true X.K st S H1 r Q (WE W σ)) (fun z => z) o1
    obtain ⟨a, dx, fv, e1, e2⟩ := rep_obj rv hc
    subst e1
    refine ⟨a, dx, fv, rfl, e2, st, S, [d], m1, cv1, r1, ?_⟩
    rw [bind_run] at o2
    cases q : g [d] m1 with
    | bad => rw [q] at o2; exact o2.elim
    | err cn fs m2 => rw [q] at o2; exact o2
    | ok t m2 =>
      rw [q] at o2
      intro v2 H2 c2 cv2 r2
      rcases dEnumT_or [t] with ⟨xs, e3, e4⟩ | e4
      · cases e3
        have o3 : OutI true X.K st S H1 ((pure (enumD xs) : M (List D)) m2) Q (WE W σ) := by rw [← e4]; exact o2
        have r0 := r2
        cases r2 with
        | tup hs rr => exact ⟨_, _, rfl, hs.sq, o3 _ _ _ H2 c2 cv2 (.cons r0 .nil) walkD_enumT⟩
      · have o3 : OutI true X.K st S H1 ((M.bad : M (List D)) m2) Q (WE W σ) := by rw [← e4]; exact o2
        exact o3.elim
end
end Den
set_option Elab.async false
set_option linter.all false
set_option maxRecDepth 100000
set_option maxHeartbeats 4000000
namespace Den
open PySem PySem.Spec PyProof.Rows L2
def dInLB (x y : D) : Option Bool := match x.py, y.py with
  | some d, some (.list ds) => if SeqAt.shaped d && SeqAt.shaped (.list ds) then some (ds.any fun z => PyData.eqv z d) else none
  | _, _ => none
def dInL (x y : D) : M D := match dInLB x y with
  | some b => pure (.bl b)
  | none => M.bad
theorem dInLB_ok {xi : XI} {K : PySem.W.Frag} {st : Stx xi} {S : Addr → Prop} {H : Hp} {x y : V} {dx dy : D} {b : Bool} (h : dInLB dx dy = some b) (rx : Rep K st S H x dx) (ry : Rep K st S H y dy) :
    ∃ d ds, Dp K H x d ∧ Dp K H y (.list ds) ∧ SeqAt.shaped d = true ∧ SeqAt.shaped (.list ds) = true ∧ (ds.any fun z => PyData.eqv z d) = b := by
  unfold dInLB at h
  cases e1 : dx.py with
  | none => rw [e1] at h; simp at h
  | some d =>
    cases e2 : dy.py with
    | none => rw [e1, e2] at h; simp at h
    | some e =>
      rw [e1, e2] at h
      cases e with
      | list ds =>
        cases e3 : (SeqAt.shaped d && SeqAt.shaped (.list ds)) with
        | false => simp [e3] at h
        | true =>
          obtain ⟨h3, h4⟩ := Bool.and_eq_true_iff.mp e3
          simp only [e3, if_true, Option.some.injEq] at h
          exact ⟨d, ds, rx.dp e1, ry.dp e2, h3, h4, h⟩
      | _ => simp at h
section
variable {K : PySem.W.Frag}
theorem vr_inL : VR2 K (rInD K) dInL := by
  intro _ st S H m x y dx dy Q E cv rx ry o
  unfold dInL at o
  cases h : dInLB dx dy with
  | none => rw [h] at o; exact o.elim
  | some b =>
    rw [h] at o
    obtain ⟨d, ds, h1, h2, h3, h4, h5⟩ := dInLB_ok h rx ry
    exact ⟨d, ds, h1, h2, h3, h4, by rw [h5]; exact o _ _ (Chg.refl _) cv (.bl b)⟩
end
section
variable {X : Cx} {W : WX} {pos : Pos} {a b : Expr} {F G : EV → M D}
theorem xInL {k : Nat} (hr : Room k X.A) (ha : SE X W a F) (hb : SE X W b G) (hm : behindInMarks .In b = false := by with_unfolding_all rfl) : SE X W (.Compare a [.In] [b] pos) (f2 dInL F G) := se_cmp dInL (op_inD (by have := hr.un; omega)) vr_inL ha hb hm
end
end Den
set_option Elab.async false
set_option linter.all false
set_option maxRecDepth 100000
set_option maxHeartbeats 4000000
namespace Den
open PySem PySem.Spec PyProof.Rows L2
end Den
set_option Elab.async false
set_option linter.all false
set_option maxRecDepth 100000
set_option maxHeartbeats 4000000
namespace Den
open PySem PySem.Spec PyProof.Rows L2
end Den
set_option Elab.async false
set_option linter.all false
set_option maxRecDepth 100000
set_option maxHeartbeats 4000000
namespace Den
open PySem PySem.Spec PyProof.Rows L2
end Den
set_option Elab.async false
set_option linter.all false
set_option maxRecDepth 100000
set_option maxHeartbeats 4000000
namespace Den
open PySem PySem.Spec PyProof.Rows L2
end Den
set_option Elab.async false
set_option linter.all false
set_option maxRecDepth 100000
set_option maxHeartbeats 4000000
namespace Den
open PySem PySem.Spec PyProof.Rows L2
end Den
set_option Elab.async false
set_option linter.all false
set_option maxRecDepth 100000
set_option maxHeartbeats 4000000
namespace Den
open PySem PySem.Spec PyProof.Rows L2 He
/-- a getter's function, behind its property -/
def gAd (K : PySem.W.Frag) (c f : Str) : Addr := match PySem.W.recIn K (ma K (ga K c) f) "property" with
  | some (.ref g :: _) => g
  | _ => 0
inductive Fx where
  | prop (c f : Str)
  | inst (c : Str)
  | exn (c : Str)
  | excc (c : Str)
  | kit (d c : Str) (b : Bool)
  | kitb (d : Str) (b : Bool)
  | kita (d : Str) (cs : List Str) (b : Bool)
  | exm (d c : Str) (b : Bool)
  | gfn (c m : Str)
  | sff (c : Str)
def Fx.ok (K : PySem.W.Frag) : Fx → Bool
  | .prop c f => eqO (PySem.W.findIn K (.ref (ga K c)) f) (some (some (.ref (ma K (ga K c) f)))) && (eqO (PySem.W.specialIn K (.ref (ma K (ga K c) f)) "__get__") (some (some (.builtin "property.__get__"))) && (decide (PySem.W.takesIn K (.ref (ma K (ga K c) f)) = some true) &&
    (match PySem.W.recIn K (ma K (ga K c) f) "property" with
    | some (.ref g :: _) => true
    | _ => false)))
  | .inst c => (Fa.cls c).ok K && (eqO (PySem.W.findIn K (.ref (ga K c)) "__class__") (some (some (.builtin "object.__class__"))) && (eqO (PySem.W.specialIn K (.builtin "object.__class__") "__get__") (some (some (.builtin "getset_descriptor.__get__"))) && (decide (PySem.W.takesIn K (.builtin "object.__class__") = some true) &&
    (decide (PySem.W.mroIn K (ga K c) (.type "object") = some true) && ((["NoneType", "bool", "int", "str", "tuple", "list"].all fun n => decide (PySem.W.kitOne K (.type n) (.ref (ga K c)) = some false)) && (["bool", "int", "str", "tuple", "list"].all fun n => decide (PySem.W.kitOne K (.ref (ga K c)) (.type n) = some false)))))))
  | .exn c => oexB K (ga K c) && (eqO (PySem.W.findIn K (.ref (ga K c)) "__init__") (some (some (.ref (ma K (ga K c) "__init__")))) && decide (PySem.W.typeIn K (.ref (ma K (ga K c) "__init__")) = some (.type "function")))
  | .excc c => excB K (ga K c)
  | .kit d c b => decide (PySem.W.kitOne K (.ref (ga K d)) (.ref (ga K c)) = some b)
  | .kitb d b => decide (PySem.W.kitOne K (.ref (ga K d)) (.type "ValueError") = some b)
  | .kita d cs b => decide (PySem.W.kitAny K (.ref (ga K d)) (cs.map fun c => .ref (ga K c)) = some b)
  | .exm d c b => decide (PySem.W.exmOne K (.ref (ga K d)) (.ref (ga K c)) = some b)
  | .gfn c m => match PySem.W.findIn K (.ref (ga K c)) m with
    | some (some (.ref fa)) => PySem.W.fnIn K fa
    | _ => true
  | .sff c => PySem.W.selfFirst K (ga K c)
section
variable {K : PySem.W.Frag}
theorem excc_ok {c : Str} (h : (Fx.excc c).ok K = true) : ExcC K (ga K c) := excB_ok h
theorem kit_ok {d c : Str} {b : Bool} (h : (Fx.kit d c b).ok K = true) : PySem.W.kitOne K (.ref (ga K d)) (.ref (ga K c)) = some b := of_decide_eq_true h
theorem kitb_ok {d : Str} {b : Bool} (h : (Fx.kitb d b).ok K = true) : PySem.W.kitOne K (.ref (ga K d)) (.type "ValueError") = some b := of_decide_eq_true h
theorem kita_ok {d : Str} {cs : List Str} {b : Bool} (h : (Fx.kita d cs b).ok K = true) : PySem.W.kitAny K (.ref (ga K d)) (cs.map fun c => .ref (ga K c)) = some b := of_decide_eq_true h
theorem exm_ok {d c : Str} {b : Bool} (h : (Fx.exm d c b).ok K = true) : PySem.W.exmOne K (.ref (ga K d)) (.ref (ga K c)) = some b := of_decide_eq_true h
theorem gfn_ok {c m : Str} (h : (Fx.gfn c m).ok K = true) : ∀ fa, PySem.W.findIn K (.ref (ga K c)) m = some (some (.ref fa)) → PySem.W.fnIn K fa = true := fun fa e => by
  have h2 : (match PySem.W.findIn K (.ref (ga K c)) m with
    | some (some (.ref fa)) => PySem.W.fnIn K fa
    | _ => true) = true := h
  rw [e] at h2
  exact h2
theorem sff_ok {c : Str} (h : (Fx.sff c).ok K = true) : PySem.W.selfFirst K (ga K c) = true := h
theorem prop_ok {c f : Str} (h : (Fx.prop c f).ok K = true) : PropOf K (ga K c) f (ma K (ga K c) f) (gAd K c f) := by
  obtain ⟨h1, h⟩ := ba h
  obtain ⟨h2, h⟩ := ba h
  obtain ⟨h3, h4⟩ := ba h
  refine ⟨eqO_ok h1, eqO_ok h2, of_decide_eq_true h3, ?_⟩
  unfold gAd
  split at h4
  · rename_i g r q
    rw [q]
    exact ⟨r, rfl⟩
  · cases h4
theorem inst_ok {c : Str} (h : (Fx.inst c).ok K = true) : InstC K c := by
  obtain ⟨h1, h⟩ := ba h
  obtain ⟨h2, h⟩ := ba h
  obtain ⟨h3, h⟩ := ba h
  obtain ⟨h4, h⟩ := ba h
  obtain ⟨h5, h⟩ := ba h
  obtain ⟨h6, h7⟩ := ba h
  exact ⟨cls_ok h1, eqO_ok h2, eqO_ok h3, of_decide_eq_true h4, of_decide_eq_true h5, fun n hn => of_decide_eq_true (List.all_eq_true.mp h6 n hn), fun n hn => of_decide_eq_true (List.all_eq_true.mp h7 n hn)⟩
theorem exn_ok {c : Str} (h : (Fx.exn c).ok K = true) : OexC K (ga K c) ∧ PySem.W.findIn K (.ref (ga K c)) "__init__" = some (some (.ref (ma K (ga K c) "__init__"))) ∧ PySem.W.typeIn K (.ref (ma K (ga K c) "__init__")) = some (.type "function") := by
  obtain ⟨h1, h⟩ := ba h
  obtain ⟨h2, h3⟩ := ba h
  exact ⟨oexB_ok h1, eqO_ok h2, of_decide_eq_true h3⟩
/-- the function at an address, as a row of its parts -/
def rowAt (K : PySem.W.Frag) (a : Addr) : FnW := match K.lookup a with
  | some o => (match o.data with
    | .func g => some (g.name, g.qualname, g.params, g.body, g.scope, g.globals, g.closure, g.builtins)
    | _ => none)
  | none => none
def goodAt (K : PySem.W.Frag) (d : DefD) (a : Addr) : Bool := PySem.W.keepIn K (.ref a) && (match K.lookup a with
  | some o => (match o.data with
    | .func g => PySem.W.codeIn K g.code d.qual && (dflB K g.defaults (d.dvs K) && kwdB K g.kwdefaults (d.kws K))
    | _ => false)
  | none => false)
theorem funAt {d : DefD} {a : Addr} (e : rowAt K a = d.val) (c : goodAt K d a = true) : ∃ fd, FunD K d.name d.qual d.params d.body d.scope (d.dvs K) (d.kws K) a fd := by
  obtain ⟨hk, hc⟩ := ba c
  unfold rowAt at e
  generalize q : K.lookup a = r at hc e
  match r, q, hc, e with
  | none, _, hc, _ => cases hc
  | some ⟨oc, od, .func g, osl⟩, q, hc, e =>
    obtain ⟨hcode, hd⟩ := ba hc
    obtain ⟨hd1, hd2⟩ := ba hd
    cases g
    simp only [DefD.val, Option.some.injEq, Prod.mk.injEq] at e
    obtain ⟨e1, e2, e3, e4, e5, e6, e7, e8⟩ := e
    subst e1 e2 e3 e4 e5 e6 e7 e8
    exact ⟨_, ⟨_, _, _, _, _, _, _, _, _, _, rfl, q, hcode, dflB_ok hd1, kwdB_ok hd2⟩, hk⟩
end
/-- a getter: its class, its name; the def -/
abbrev GetD : Type := Str × Str × DefD
abbrev AlX : Type := Bool × (List FnW × List FnW)
def obsX (fa : List Fa) (fx : List Fx) (fn : List DefD) (fg : List GetD) (K : PySem.W.Frag) : AlX :=
  ((fa.all fun f => f.ok K) && ((fx.all fun f => f.ok K) && ((fn.all fun d => d.ok K) && fg.all fun d => goodAt K d.2.2 (gAd K d.1 d.2.1))), (fn.map fun d => fnW K d.at_, fg.map fun d => rowAt K (gAd K d.1 d.2.1)))
def valX (fn : List DefD) (fg : List GetD) : AlX := (true, (fn.map DefD.val, fg.map fun d => d.2.2.val))
def SaysX (fa : List Fa) (fx : List Fx) (fn : List DefD) (fg : List GetD) (K : PySem.W.Frag) : Prop := obsX fa fx fn fg K = valX fn fg
section
variable {fa : List Fa} {fx : List Fx} {fn : List DefD} {fg : List GetD} {K : PySem.W.Frag}
theorem SaysX.bools (c : SaysX fa fx fn fg K) : (fa.all fun f => f.ok K) = true ∧ (fx.all fun f => f.ok K) = true ∧ (fn.all fun d => d.ok K) = true ∧ (fg.all fun d => goodAt K d.2.2 (gAd K d.1 d.2.1)) = true := by
  obtain ⟨h1, h⟩ := ba (congrArg (fun z : AlX => z.1) c)
  obtain ⟨h2, h⟩ := ba h
  obtain ⟨h3, h4⟩ := ba h
  exact ⟨h1, h2, h3, h4⟩
theorem SaysX.fact (c : SaysX fa fx fn fg K) (i : Nat) {f : Fa} (h : fa[i]? = some f := by rfl) : f.ok K = true := List.all_eq_true.mp c.bools.1 f (List.mem_of_getElem? h)
theorem SaysX.own (c : SaysX fa fx fn fg K) (i : Nat) {f : Fx} (h : fx[i]? = some f := by rfl) : f.ok K = true := List.all_eq_true.mp c.bools.2.1 f (List.mem_of_getElem? h)
theorem SaysX.def_ (c : SaysX fa fx fn fg K) (i : Nat) {d : DefD} (h : fn[i]? = some d := by rfl) : ∃ fd, FunD K d.name d.qual d.params d.body d.scope (d.dvs K) (d.kws K) (fAd K d.at_) fd := by
  have e2 := congrArg (fun z : AlX => z.2.1[i]?) c
  have e3 : (fn.map fun d => fnW K d.at_)[i]? = (fn.map DefD.val)[i]? := e2
  rw [List.getElem?_map, List.getElem?_map, h] at e3
  exact DefD.funD (Option.some.inj e3) (List.all_eq_true.mp c.bools.2.2.1 d (List.mem_of_getElem? h))
theorem SaysX.getter (c : SaysX fa fx fn fg K) (i : Nat) {d : GetD} (h : fg[i]? = some d := by rfl) : ∃ fd, FunD K d.2.2.name d.2.2.qual d.2.2.params d.2.2.body d.2.2.scope (d.2.2.dvs K) (d.2.2.kws K) (gAd K d.1 d.2.1) fd := by
  have e3 : (fg.map fun d => rowAt K (gAd K d.1 d.2.1))[i]? = (fg.map fun d => d.2.2.val)[i]? := congrArg (fun z : AlX => z.2.2[i]?) c
  rw [List.getElem?_map, List.getElem?_map, h] at e3
  exact funAt (Option.some.inj e3) (List.all_eq_true.mp c.bools.2.2.2 d (List.mem_of_getElem? h))
end
end Den
set_option Elab.async false
set_option linter.all false
set_option maxRecDepth 100000
set_option maxHeartbeats 4000000
namespace Den
open PySem PySem.Spec PyProof.Rows L2 He
theorem walk_X {law : PySem.W.OpenLaw} {most lev : Nat} {prg : Program} {lo : List Str} {Xp : (Str → Option Value) → Heap → Prop} {Yp : World → Heap → Prop} {dr : DefRec} {Cx0 : World → CXT} {par : Str}
    (h1 : law.most = some most) (h2 : most ≤ sizeLine) (h3 : dr.params.defaults = []) (h4 : Room lev callerA)
    (hF : ∀ (w : World) (mg : Str → Option Value) (fl : Addr) (hp : Heap), Yp w hp → hp.Ns mainGlobals mg → mg dr.name = some (.ref fl) →
      ∃ (K : PySem.W.Frag) (fd : FuncData) (sp : Sp), K.In hp ∧ (∀ (st : Shared) (u : Value), BindsTo st fd ⟨[u], []⟩ [(par, u)]) ∧
        (∀ (H : Hp) (ad : Addr) (nums : List Int), nums.length ≤ most → Only H → SqL K H ad (nums.map V.int) → sp [.ref ad] H (fun v _ => v = .bl true) fun _ _ _ => False) ∧
        ∀ below : Heap, K.In below → below.Ns mainGlobals mg → FnOk law.prog w K mg below (Cx0 w) lev fl fd [par] sp)
    (hX : ∀ (w : World) (H : Hp) (st : Shared) (e : Value) (st' : Shared), Cx0 w [] H st (fun _ _ _ => False) e st' → False) :
    PySem.W.WalkO prg lo Xp Yp law.row.toRowW dr [] (fun f us => PySem.call f us) := by
  refine Att.attach_call h1 h3 fun w _ st mg mb fl o pm cd doc ad us nums G Y q1 q2 q3 q4 q5 q6 q7 q8 => ?_
  obtain ⟨K, fd, sp, k1, k2, k3, k4⟩ := hF w mg fl _ Y G.T.g q4
  exact law_call k1 G.T.g G.T.b G.T.builtins G.T.nolimit q8 q5 q6 (Nat.le_trans q7 h2) h4 k4 k2 (fun H a b => k3 H ad nums q7 a b) fun H e st' => hX w H st e st'
theorem no_CX {P : Program} (w : World) (H : Hp) (st : Shared) (e : Value) (st' : Shared) (h : L2N.CX P w [] H st (fun _ _ _ => False) e st') : False := by
  obtain ⟨_, _, _, _, _, _, _, _, _, _, _, _, z⟩ := h
  exact z
end Den
set_option Elab.async false
set_option linter.all false
set_option maxRecDepth 100000
set_option maxHeartbeats 4000000
namespace Den
open PySem PySem.Spec PyProof.Rows L2 He
def obsL (as : List Addr) (fa : List Fa) (fx : List Fx) (fn : List DefD) (fg : List GetD) (s : Shared) : AlX := match HandSHeadRun.putAll s.heap.objs.toList .nil 0 with
  | some (t, k) => obsX fa fx fn fg (frG (HandSHeadRun.getT ⟨t, k, s.heap.life, #[], s.drawn, s.toks, s.os⟩) as)
  | none => obsX fa fx fn fg (frG s.heap.get? as)
theorem obsL_eq {as : List Addr} {fa : List Fa} {fx : List Fx} {fn : List DefD} {fg : List GetD} {s : Shared} : obsL as fa fx fn fg s = obsX fa fx fn fg (frG s.heap.get? as) := by
  unfold obsL
  split
  · rename_i t k e
    have e2 := HandSHeadRun.putAll_heap (h := s.heap) e
    have e3 : HandSHeadRun.getT ⟨t, k, s.heap.life, #[], s.drawn, s.toks, s.os⟩ = s.heap.get? := by
      funext a
      rw [HandSHeadRun.getT_eq]
      show (PySem.W.absHeap t k s.heap.life).get? a = _
      rw [e2]
    rw [e3]
  · rfl
def hookL (as : List Addr) (fa : List Fa) (fx : List Fx) (fn : List DefD) (fg : List GetD) : PySem.W.Hook where
  α := AlX
  obs := obsL as fa fx fn fg
  val := fun _ => valX fn fg
  says := fun _ h => ∃ K : PySem.W.Frag, K.In h ∧ SaysX fa fx fn fg K
  of := fun _ s e => ⟨_, frG_in, (obsL_eq (s := s)).symm.trans e⟩
  keeps := fun _ _ _ ⟨K, hK, c⟩ k => ⟨K, PySem.W.Frag.In.keeps hK k, c⟩
end Den
set_option Elab.async false
set_option linter.all false
set_option maxRecDepth 100000
set_option maxHeartbeats 4000000
namespace Hd
open PySem PySem.Spec PyProof.Rows L2 Den
def top (i : Nat) : Stmt := PySem.Challenge.pw_greatestback_k35_back_and_forth.main.body.getD i (.Pass ⟨0, 0, 0, 0⟩)
abbrev s__law_store : Stmt := top 43
abbrev s__law_mix : Stmt := top 44
abbrev s__law_take : Stmt := top 45
abbrev s__law_of : Stmt := top 55
abbrev s__law_lot : Stmt := top 50
abbrev s__law_pick : Stmt := top 47
abbrev s__law_join : Stmt := top 51
abbrev s__law_twin : Stmt := top 70
abbrev s__law_turn : Stmt := top 57
abbrev s__law_shuffle : Stmt := top 48
abbrev s__law_units : Stmt := top 74
abbrev s__law_lots : Stmt := top 56
abbrev s__law_through : Stmt := top 61
abbrev s__law_behind : Stmt := top 60
abbrev s__law_spread : Stmt := top 75
abbrev s__law_placed : Stmt := top 73
abbrev s__law_placing : Stmt := top 54
abbrev s__law_order : Stmt := top 72
abbrev s__law_way : Stmt := top 76
abbrev s__law_between : Stmt := top 46
abbrev s__law_not : Stmt := top 58
abbrev s__law_unit : Stmt := top 59
abbrev s__law_lost : Stmt := top 77
abbrev s__law_rect : Stmt := top 71
abbrev s__law_free : Stmt := top 69
abbrev s__law_grid : Stmt := top 78
abbrev s__law_side : Stmt := top 67
abbrev s__is_short : Stmt := top 27
abbrev s_is_number : Stmt := top 20
abbrev s__width_of : Stmt := top 29
abbrev s__is_row : Stmt := top 28
abbrev s_Table_init : Stmt := inClass (top 31) 0
abbrev s__law_table : Stmt := top 65
abbrev s__law_within : Stmt := top 53
abbrev s__law_greatest : Stmt := top 80
abbrev s__law_less : Stmt := top 52
abbrev s__law_flip : Stmt := top 63
abbrev s__law_bent_grid : Stmt := top 79
abbrev s__law_back : Stmt := top 62
abbrev s__law_cells : Stmt := top 64
abbrev s__law_some_way : Stmt := top 81
abbrev s__law_cross : Stmt := top 82
abbrev s__law_there : Stmt := top 84
abbrev s_Table_width : Stmt := inClass (top 31) 5
abbrev s_Table_height : Stmt := inClass (top 31) 4
abbrev s_Table_size : Stmt := inClass (top 31) 6
abbrev s_is_crosswise : Stmt := top 36
abbrev s_check_crosswise : Stmt := top 37
abbrev s_check_behind : Stmt := top 25
abbrev s_Table_columns : Stmt := inClass (top 31) 9
abbrev s__have_middle : Stmt := top 30
abbrev s_Table_mul : Stmt := inClass (top 31) 16
abbrev s_back_and_forth : Stmt := top 38
abbrev s_Table_eq : Stmt := inClass (top 31) 14
abbrev s_leads_back : Stmt := top 41
abbrev s_check_same_size : Stmt := top 26
abbrev s_Table_iter : Stmt := inClass (top 31) 13
abbrev s_is_number_pair : Stmt := top 21
abbrev s_Table_getitem : Stmt := inClass (top 31) 12
abbrev s_first_outside : Stmt := top 34
abbrev s_is_inside : Stmt := top 33
abbrev s_is_under : Stmt := top 39
abbrev s__law_same : Stmt := top 49
abbrev s_Table_rows : Stmt := inClass (top 31) 8
abbrev s__law_shows : Stmt := top 66
abbrev s__law_right : Stmt := top 85
abbrev s__law_other_size : Stmt := top 68
abbrev s__law_lone : Stmt := top 83
abbrev s__law_refused : Stmt := top 86
abbrev s_law : Stmt := top 87
section
variable {P : Program} {w : World} {K : PySem.W.Frag} {mg : Str → Option Value} {base : Heap}
def N__law_store : List Str := ["script", "cell"]
theorem sc__law_store : FnScope N__law_store ["script"] (defScope s__law_store) := ⟨rfl, rfl, rfl, by decide +kernel, rfl, by decide +kernel, by decide +kernel⟩
def den__law_store : List D → M D := runF 1 2 (gRet (fNew (lDis (aC (fNew (compV (eName 1) (iSeq (fNew (gSlice (gVar 0) oNo (oYes (fC (.int 63)))))) tYes (fL dInt (aC (gVar 1) aN)))) (aC (fC (.int 0)) (aC (fC (.int 0)) (aC (fC (.int 0)) (aC (fC (.int 0)) (aC (fC (.int 314159265358)) (aC (fC (.int 0)) aN))))))))))
theorem ok__law_store {f : Addr} {fd : FuncData} (F : FunD K "_law_store" "_law_store" (defArgs s__law_store) (defBody s__law_store) (defScope s__law_store) [] [] f fd) (gf : mg "_law_store" = some (.ref f)) (n_int : mg "int" = none) :
    Cal P w K mg base 1 "_law_store" (defArgs s__law_store) (defBody s__law_store) (defScope s__law_store) ["script"] den__law_store := by
  refine ⟨f, fd, gf, F, F.bindsN fun _ _ _ _ _ _ us hl => match us, hl with | [_], _ => rfl, fn_den (N := N__law_store) F sc__law_store fun cdv A outer s H E hr => ?_⟩
  have hN : N__law_store.Nodup := sc__law_store.nd
  have hp : PassesOwn (model P w) _ _ _ := passes_of (X := cxOf (L2N.CX P w) P w K mg base N__law_store "_law_store" (defScope s__law_store) f cdv A outer s H E) rfl
  have tk : Den.Takes (cxOf (L2N.CX P w) P w K mg base N__law_store "_law_store" (defScope s__law_store) f cdv A outer s H E) (wE E) := L2N.takes_of rfl rfl rfl rfl
  exact (ss_one (sRet (xNew (lLst (aCons (xNew (lLc 1 rfl hN (jSeq (xNew (lSl (xV 0) oNone (oSome xI)))) (fun _ _ _ _ _ => cNone) (fun _ _ _ _ _ => (xInt n_int (aCons (xV 1) aNil))))) (aCons xI (aCons xI (aCons xI (aCons xI (aCons xI (aCons xI aNil)))))))))))
def N__law_mix : List Str := ["number", "turn", "once"]
theorem sc__law_mix : FnScope N__law_mix ["number", "turn"] (defScope s__law_mix) := ⟨rfl, rfl, rfl, by decide +kernel, rfl, by decide +kernel, by decide +kernel⟩
def den__law_mix : List D → M D := runF 2 3 (gSeq (gAsg 2 [] (f2 dMod (fL dInt (aC (f2 dAdd (f2 dMul (f2 dMod (fL dInt (aC (gVar 0) aN)) (f2 dSub (f2 dPow (fC (.int 2)) (fC (.int 61))) (fC (.int 1)))) (fC (.int 6364136223846793005))) (f2 dMul (fL dInt (aC (gVar 1) aN)) (fC (.int 1442695040888963407)))) aN)) (f2 dSub (f2 dPow (fC (.int 2)) (fC (.int 61))) (fC (.int 1))))) (gRet (f2 dMod (fL dInt (aC (f2 dAdd (f2 dAdd (f2 dMul (gVar 2) (gVar 2)) (f2 dMul (fC (.int 48271)) (gVar 2))) (f2 dDiv (gVar 2) (fC (.int 1073741824)))) aN)) (fC (.int 999999999989)))))
theorem ok__law_mix {f : Addr} {fd : FuncData} (F : FunD K "_law_mix" "_law_mix" (defArgs s__law_mix) (defBody s__law_mix) (defScope s__law_mix) [] [] f fd) (gf : mg "_law_mix" = some (.ref f)) (n_int : mg "int" = none) :
    Cal P w K mg base 1 "_law_mix" (defArgs s__law_mix) (defBody s__law_mix) (defScope s__law_mix) ["number", "turn"] den__law_mix := by
  refine ⟨f, fd, gf, F, F.bindsN fun _ _ _ _ _ _ us hl => match us, hl with | [_, _], _ => rfl, fn_den (N := N__law_mix) F sc__law_mix fun cdv A outer s H E hr => ?_⟩
  have hN : N__law_mix.Nodup := sc__law_mix.nd
  have hp : PassesOwn (model P w) _ _ _ := passes_of (X := cxOf (L2N.CX P w) P w K mg base N__law_mix "_law_mix" (defScope s__law_mix) f cdv A outer s H E) rfl
  have tk : Den.Takes (cxOf (L2N.CX P w) P w K mg base N__law_mix "_law_mix" (defScope s__law_mix) f cdv A outer s H E) (wE E) := L2N.takes_of rfl rfl rfl rfl
  exact (ss_cons (sLet 2 [] hN (xMod (xInt n_int (aCons (xAdd (xMul (xMod (xInt n_int (aCons (xV 0) aNil)) (xSub (xPow xI xI) xI)) xI) (xMul (xInt n_int (aCons (xV 1) aNil)) xI)) aNil)) (xSub (xPow xI xI) xI))) (ss_one (sRet (xMod (xInt n_int (aCons (xAdd (xAdd (xMul (xV 2) (xV 2)) (xMul xI (xV 2))) (xDiv (xV 2) xI)) aNil)) xI))))
def N__law_take : List Str := ["store", "many", "cell", "digit"]
theorem sc__law_take : FnScope N__law_take ["store", "many"] (defScope s__law_take) := ⟨rfl, rfl, rfl, by decide +kernel, rfl, by decide +kernel, by decide +kernel⟩
def den__law_take : List D → M D := runF 2 4 (gSeq (gIf (t2 dLt (gVar 1) (fC (.int 2))) (gRet (fC (.int 0))) (fun ρ => pure (.nx ρ))) (gSeq (gIf (tAnd (t2 dLt (f2 dIx (gVar 0) (fC (.int 2))) (fC (.int 1))) (tAnd (t2 dLt (f2 dIx (gVar 0) (fC (.int 4))) (fC (.int 1))) (t2 dLt (f2 dIx (gVar 0) (fC (.int 1))) (fL dLen (aC (f2 dIx (gVar 0) (fC (.int 0))) aN))))) (gSeq (gAsg 2 [] (f2 dIx (f2 dIx (gVar 0) (fC (.int 0))) (f2 dIx (gVar 0) (fC (.int 1))))) (gSeq (gSetS 0 (f2 dAdd (f2 dIx (gVar 0) (fC (.int 1))) (fC (.int 1))) (fC (.int 1))) (gSeq (gSetS 0 (fL den__law_mix (aC (gVar 2) (aC (f2 dAdd (f2 dIx (gVar 0) (fC (.int 5))) (fC (.int 1))) aN))) (fC (.int 5))) (gIf (t2 dGe (gVar 2) (f2 dPow (fC (.int 10)) (fC (.int 18)))) (gSetS 0 (gVar 2) (fC (.int 2))) (gSeq (gSetS 0 (gVar 2) (fC (.int 3))) (gSetS 0 (fC (.int 3)) (fC (.int 4)))))))) (fun ρ => pure (.nx ρ))) (gSeq (gIf (t2 dGt (f2 dIx (gVar 0) (fC (.int 2))) (fC (.int 0))) (gSeq (gAsg 3 [] (f2 dMod (fL dInt (aC (f2 dIx (gVar 0) (fC (.int 2))) aN)) (gVar 1))) (gSeq (gSetS 0 (f2 dDiv (f2 dIx (gVar 0) (fC (.int 2))) (gVar 1)) (fC (.int 2))) (gRet (gVar 3)))) (fun ρ => pure (.nx ρ))) (gSeq (gSetS 0 (f2 dAdd (f2 dIx (gVar 0) (fC (.int 6))) (fC (.int 1))) (fC (.int 6))) (gSeq (gIf (t2 dGt (f2 dIx (gVar 0) (fC (.int 4))) (fC (.int 0))) (gSeq (gSetS 0 (f2 dSub (f2 dIx (gVar 0) (fC (.int 4))) (fC (.int 1))) (fC (.int 4))) (gRet (f2 dMod (fL dInt (aC (f2 dDiv (fL den__law_mix (aC (f2 dIx (gVar 0) (fC (.int 3))) (aC (f2 dIx (gVar 0) (fC (.int 6))) aN))) (fC (.int 8))) aN)) (gVar 1)))) (fun ρ => pure (.nx ρ))) (gRet (f2 dMod (fL dInt (aC (f2 dDiv (fL den__law_mix (aC (f2 dIx (gVar 0) (fC (.int 5))) (aC (f2 dIx (gVar 0) (fC (.int 6))) aN))) (fC (.int 8))) aN)) (gVar 1))))))))
theorem ok__law_take {f : Addr} {fd : FuncData} (F : FunD K "_law_take" "_law_take" (defArgs s__law_take) (defBody s__law_take) (defScope s__law_take) [] [] f fd) (gf : mg "_law_take" = some (.ref f)) (c__law_mix : Cal P w K mg base 1 "_law_mix" (defArgs s__law_mix) (defBody s__law_mix) (defScope s__law_mix) ["number", "turn"] den__law_mix) (n_int : mg "int" = none) (n_len : mg "len" = none) :
    Cal P w K mg base 2 "_law_take" (defArgs s__law_take) (defBody s__law_take) (defScope s__law_take) ["store", "many"] den__law_take := by
  refine ⟨f, fd, gf, F, F.bindsN fun _ _ _ _ _ _ us hl => match us, hl with | [_, _], _ => rfl, fn_den (N := N__law_take) F sc__law_take fun cdv A outer s H E hr => ?_⟩
  have hN : N__law_take.Nodup := sc__law_take.nd
  have hp : PassesOwn (model P w) _ _ _ := passes_of (X := cxOf (L2N.CX P w) P w K mg base N__law_take "_law_take" (defScope s__law_take) f cdv A outer s H E) rfl
  have tk : Den.Takes (cxOf (L2N.CX P w) P w K mg base N__law_take "_law_take" (defScope s__law_take) f cdv A outer s H E) (wE E) := L2N.takes_of rfl rfl rfl rfl
  exact (ss_cons (ss_if (cLt (xV 1) xI) (ss_one (sRet xI)) ss_nil) (ss_cons (ss_if (cBo (cAnd (cLt (xIx (xV 0) xI) xI) (cAnd (cLt (xIx (xV 0) xI) xI) (cAnd1 (cLt (xIx (xV 0) xI) (xLen n_len (aCons (xIx (xV 0) xI) aNil))))))) (ss_cons (sLet 2 [] hN (xIx (xIx (xV 0) xI) (xIx (xV 0) xI))) (ss_cons (sSto 0 (xAdd (xIx (xV 0) xI) xI) xI) (ss_cons (sSto 0 (xCall c__law_mix tk (hr.mono (by omega)) (aCons (xV 2) (aCons (xAdd (xIx (xV 0) xI) xI) aNil))) xI) (ss_one (ss_if (cGe (xV 2) (xPow xI xI)) (ss_one (sSto 0 (xV 2) xI)) (ss_cons (sSto 0 (xV 2) xI) (ss_one (sSto 0 xI xI)))))))) ss_nil) (ss_cons (ss_if (cGt (xIx (xV 0) xI) xI) (ss_cons (sLet 3 [] hN (xMod (xInt n_int (aCons (xIx (xV 0) xI) aNil)) (xV 1))) (ss_cons (sSto 0 (xDiv (xIx (xV 0) xI) (xV 1)) xI) (ss_one (sRet (xV 3))))) ss_nil) (ss_cons (sSto 0 (xAdd (xIx (xV 0) xI) xI) xI) (ss_cons (ss_if (cGt (xIx (xV 0) xI) xI) (ss_cons (sSto 0 (xSub (xIx (xV 0) xI) xI) xI) (ss_one (sRet (xMod (xInt n_int (aCons (xDiv (xCall c__law_mix tk (hr.mono (by omega)) (aCons (xIx (xV 0) xI) (aCons (xIx (xV 0) xI) aNil))) xI) aNil)) (xV 1))))) ss_nil) (ss_one (sRet (xMod (xInt n_int (aCons (xDiv (xCall c__law_mix tk (hr.mono (by omega)) (aCons (xIx (xV 0) xI) (aCons (xIx (xV 0) xI) aNil))) xI) aNil)) (xV 1)))))))))
def N__law_of : List Str := ["lots", "wide", "rows", "lot", "k"]
theorem sc__law_of : FnScope N__law_of ["lots", "wide"] (defScope s__law_of) := ⟨rfl, rfl, rfl, by decide +kernel, rfl, by decide +kernel, by decide +kernel⟩
def den__law_of : List D → M D := runF 2 5 (gSeq (gNew 2 [] (lDis aN)) (gSeq (gFor (iSeq (gVar 0)) (bName 3) (gApp 2 [] (fL dTuple (aC (fNew (compV (eName 4) (iRan 1 (aC (gVar 1) aN)) tYes (f2 dIn (gVar 4) (gVar 3)))) aN)))) (gRet (fTup (aC (fC (.str "table")) (aC (fL dLen (aC (gVar 2) aN)) (aC (gVar 1) (aC (fL dTuple (aC (gVar 2) aN)) aN))))))))
theorem ok__law_of {f : Addr} {fd : FuncData} (F : FunD K "_law_of" "_law_of" (defArgs s__law_of) (defBody s__law_of) (defScope s__law_of) [] [] f fd) (gf : mg "_law_of" = some (.ref f)) (n_len : mg "len" = none) (n_range : mg "range" = none) (n_tuple : mg "tuple" = none) :
    Cal P w K mg base 1 "_law_of" (defArgs s__law_of) (defBody s__law_of) (defScope s__law_of) ["lots", "wide"] den__law_of := by
  refine ⟨f, fd, gf, F, F.bindsN fun _ _ _ _ _ _ us hl => match us, hl with | [_, _], _ => rfl, fn_den (N := N__law_of) F sc__law_of fun cdv A outer s H E hr => ?_⟩
  have hN : N__law_of.Nodup := sc__law_of.nd
  have hp : PassesOwn (model P w) _ _ _ := passes_of (X := cxOf (L2N.CX P w) P w K mg base N__law_of "_law_of" (defScope s__law_of) f cdv A outer s H E) rfl
  have tk : Den.Takes (cxOf (L2N.CX P w) P w K mg base N__law_of "_law_of" (defScope s__law_of) f cdv A outer s H E) (wE E) := L2N.takes_of rfl rfl rfl rfl
  exact (ss_cons (sOwn 2 [] hN (lLst aNil)) (ss_cons (sFor 3 hN hp rfl (jSeq (xV 0)) (ss_one (sApp 2 [] (xTuple n_tuple (aCons (xNew (lLc 4 rfl hN (jR1 n_range (aCons (xV 1) aNil)) (fun _ _ _ _ _ => cNone) (fun _ _ _ _ _ => (xIn (xV 4) (xV 3))))) aNil))))) (ss_one (sRet (xTup (aCons xS (aCons (xLen n_len (aCons (xV 2) aNil)) (aCons (xV 1) (aCons (xTuple n_tuple (aCons (xV 2) aNil)) aNil)))))))))
def N__law_lot : List Str := ["store", "limit", "kind", "spot", "k"]
theorem sc__law_lot : FnScope N__law_lot ["store", "limit"] (defScope s__law_lot) := ⟨rfl, rfl, rfl, by decide +kernel, rfl, by decide +kernel, by decide +kernel⟩
def den__law_lot : List D → M D := runF 2 5 (gSeq (gAsg 2 [] (fL den__law_take (aC (gVar 0) (aC (fC (.int 6)) aN)))) (gSeq (gIf (t2 dEq (gVar 2) (fC (.int 0))) (gRet (fTup aN)) (fun ρ => pure (.nx ρ))) (gSeq (gIf (t2 dEq (gVar 2) (fC (.int 1))) (gRet (fL dTuple (aC (fNew (compV (eName 4) (iRan 1 (aC (gVar 1) aN)) tYes (gVar 4))) aN))) (fun ρ => pure (.nx ρ))) (gSeq (gAsg 3 [] (fC (.int 0))) (gSeq (gIf (t2 dLt (gVar 2) (fC (.int 4))) (gAsg 3 [] (fL den__law_take (aC (gVar 0) (aC (gVar 1) aN)))) (fun ρ => pure (.nx ρ))) (gSeq (gIf (t2 dEq (gVar 2) (fC (.int 2))) (gRet (fL dTuple (aC (fNew (compV (eName 4) (iRan 1 (aC (gVar 1) aN)) (t2 dEq (gVar 4) (gVar 3)) (gVar 4))) aN))) (fun ρ => pure (.nx ρ))) (gSeq (gIf (t2 dEq (gVar 2) (fC (.int 3))) (gRet (fL dTuple (aC (fNew (compV (eName 4) (iRan 1 (aC (gVar 1) aN)) (t2 dNe (gVar 4) (gVar 3)) (gVar 4))) aN))) (fun ρ => pure (.nx ρ))) (gRet (fL dTuple (aC (fNew (compV (eName 4) (iRan 1 (aC (gVar 1) aN)) (t2 dEq (fL den__law_take (aC (gVar 0) (aC (fC (.int 2)) aN))) (fC (.int 1))) (gVar 4))) aN))))))))))
theorem ok__law_lot {f : Addr} {fd : FuncData} (F : FunD K "_law_lot" "_law_lot" (defArgs s__law_lot) (defBody s__law_lot) (defScope s__law_lot) [] [] f fd) (gf : mg "_law_lot" = some (.ref f)) (c__law_take : Cal P w K mg base 2 "_law_take" (defArgs s__law_take) (defBody s__law_take) (defScope s__law_take) ["store", "many"] den__law_take) (n_range : mg "range" = none) (n_tuple : mg "tuple" = none) :
    Cal P w K mg base 3 "_law_lot" (defArgs s__law_lot) (defBody s__law_lot) (defScope s__law_lot) ["store", "limit"] den__law_lot := by
  refine ⟨f, fd, gf, F, F.bindsN fun _ _ _ _ _ _ us hl => match us, hl with | [_, _], _ => rfl, fn_den (N := N__law_lot) F sc__law_lot fun cdv A outer s H E hr => ?_⟩
  have hN : N__law_lot.Nodup := sc__law_lot.nd
  have hp : PassesOwn (model P w) _ _ _ := passes_of (X := cxOf (L2N.CX P w) P w K mg base N__law_lot "_law_lot" (defScope s__law_lot) f cdv A outer s H E) rfl
  have tk : Den.Takes (cxOf (L2N.CX P w) P w K mg base N__law_lot "_law_lot" (defScope s__law_lot) f cdv A outer s H E) (wE E) := L2N.takes_of rfl rfl rfl rfl
  exact (ss_cons (sLet 2 [] hN (xCall c__law_take tk (hr.mono (by omega)) (aCons (xV 0) (aCons xI aNil)))) (ss_cons (ss_if (cEq hr (xV 2) xI) (ss_one (sRet (xTup aNil))) ss_nil) (ss_cons (ss_if (cEq hr (xV 2) xI) (ss_one (sRet (xTuple n_tuple (aCons (xNew (lLc 4 rfl hN (jR1 n_range (aCons (xV 1) aNil)) (fun _ _ _ _ _ => cNone) (fun _ _ _ _ _ => (xV 4)))) aNil)))) ss_nil) (ss_cons (sLet 3 [] hN xI) (ss_cons (ss_if (cLt (xV 2) xI) (ss_one (sLet 3 [] hN (xCall c__law_take tk (hr.mono (by omega)) (aCons (xV 0) (aCons (xV 1) aNil))))) ss_nil) (ss_cons (ss_if (cEq hr (xV 2) xI) (ss_one (sRet (xTuple n_tuple (aCons (xNew (lLc 4 rfl hN (jR1 n_range (aCons (xV 1) aNil)) (fun _ _ _ _ _ => (cOne (cEq hr (xV 4) (xV 3)))) (fun _ _ _ _ _ => (xV 4)))) aNil)))) ss_nil) (ss_cons (ss_if (cEq hr (xV 2) xI) (ss_one (sRet (xTuple n_tuple (aCons (xNew (lLc 4 rfl hN (jR1 n_range (aCons (xV 1) aNil)) (fun _ _ _ _ _ => (cOne (cNe hr (xV 4) (xV 3)))) (fun _ _ _ _ _ => (xV 4)))) aNil)))) ss_nil) (ss_one (sRet (xTuple n_tuple (aCons (xNew (lLc 4 rfl hN (jR1 n_range (aCons (xV 1) aNil)) (fun _ _ _ _ _ => (cOne (cEq hr (xCall c__law_take tk0 (hr.mono (by omega)) (aCons (xV 0) (aCons xI aNil))) xI))) (fun _ _ _ _ _ => (xV 4)))) aNil)))))))))))
def N__law_pick : List Str := ["store", "things"]
theorem sc__law_pick : FnScope N__law_pick ["store", "things"] (defScope s__law_pick) := ⟨rfl, rfl, rfl, by decide +kernel, rfl, by decide +kernel, by decide +kernel⟩
def den__law_pick : List D → M D := runF 2 2 (gSeq (gIf (t2 dEq (fL dLen (aC (gVar 1) aN)) (fC (.int 0))) (gRet (fC .non)) (fun ρ => pure (.nx ρ))) (gRet (f2 dIx (gVar 1) (fL den__law_take (aC (gVar 0) (aC (fL dLen (aC (gVar 1) aN)) aN))))))
theorem ok__law_pick {f : Addr} {fd : FuncData} (F : FunD K "_law_pick" "_law_pick" (defArgs s__law_pick) (defBody s__law_pick) (defScope s__law_pick) [] [] f fd) (gf : mg "_law_pick" = some (.ref f)) (c__law_take : Cal P w K mg base 2 "_law_take" (defArgs s__law_take) (defBody s__law_take) (defScope s__law_take) ["store", "many"] den__law_take) (n_len : mg "len" = none) :
    Cal P w K mg base 3 "_law_pick" (defArgs s__law_pick) (defBody s__law_pick) (defScope s__law_pick) ["store", "things"] den__law_pick := by
  refine ⟨f, fd, gf, F, F.bindsN fun _ _ _ _ _ _ us hl => match us, hl with | [_, _], _ => rfl, fn_den (N := N__law_pick) F sc__law_pick fun cdv A outer s H E hr => ?_⟩
  have hN : N__law_pick.Nodup := sc__law_pick.nd
  have hp : PassesOwn (model P w) _ _ _ := passes_of (X := cxOf (L2N.CX P w) P w K mg base N__law_pick "_law_pick" (defScope s__law_pick) f cdv A outer s H E) rfl
  have tk : Den.Takes (cxOf (L2N.CX P w) P w K mg base N__law_pick "_law_pick" (defScope s__law_pick) f cdv A outer s H E) (wE E) := L2N.takes_of rfl rfl rfl rfl
  exact (ss_cons (ss_if (cEq hr (xLen n_len (aCons (xV 1) aNil)) xI) (ss_one (sRet xN)) ss_nil) (ss_one (sRet (xIx (xV 1) (xCall c__law_take tk (hr.mono (by omega)) (aCons (xV 0) (aCons (xLen n_len (aCons (xV 1) aNil)) aNil)))))))
def N__law_join : List Str := ["lots", "out", "k", "lot"]
theorem sc__law_join : FnScope N__law_join ["lots"] (defScope s__law_join) := ⟨rfl, rfl, rfl, by decide +kernel, rfl, by decide +kernel, by decide +kernel⟩
def den__law_join : List D → M D := runF 1 4 (gSeq (gNew 1 [] (lDis aN)) (gSeq (gFor (iRan 1 (aC (fC (.int 6)) aN)) (bName 2) (gIf (tT (fL dAny (aC (fNew (compV (eName 3) (iSeq (gVar 0)) tYes (f2 dIn (gVar 2) (gVar 3)))) aN))) (gApp 1 [] (gVar 2)) (fun ρ => pure (.nx ρ)))) (gRet (fL dTuple (aC (gVar 1) aN)))))
theorem ok__law_join {f : Addr} {fd : FuncData} (F : FunD K "_law_join" "_law_join" (defArgs s__law_join) (defBody s__law_join) (defScope s__law_join) [] [] f fd) (gf : mg "_law_join" = some (.ref f)) (n_any : mg "any" = none) (n_range : mg "range" = none) (n_tuple : mg "tuple" = none) :
    Cal P w K mg base 1 "_law_join" (defArgs s__law_join) (defBody s__law_join) (defScope s__law_join) ["lots"] den__law_join := by
  refine ⟨f, fd, gf, F, F.bindsN fun _ _ _ _ _ _ us hl => match us, hl with | [_], _ => rfl, fn_den (N := N__law_join) F sc__law_join fun cdv A outer s H E hr => ?_⟩
  have hN : N__law_join.Nodup := sc__law_join.nd
  have hp : PassesOwn (model P w) _ _ _ := passes_of (X := cxOf (L2N.CX P w) P w K mg base N__law_join "_law_join" (defScope s__law_join) f cdv A outer s H E) rfl
  have tk : Den.Takes (cxOf (L2N.CX P w) P w K mg base N__law_join "_law_join" (defScope s__law_join) f cdv A outer s H E) (wE E) := L2N.takes_of rfl rfl rfl rfl
  exact (ss_cons (sOwn 1 [] hN (lLst aNil)) (ss_cons (sFor 2 hN hp rfl (jR1 n_range (aCons xI aNil)) (ss_one (ss_if (cTru (xAny rfl n_any (aCons (xNew (lLc 3 rfl hN (jSeq (xV 0)) (fun _ _ _ _ _ => cNone) (fun _ _ _ _ _ => (xIn (xV 2) (xV 3))))) aNil))) (ss_one (sApp 1 [] (xV 2))) ss_nil))) (ss_one (sRet (xTuple n_tuple (aCons (xV 1) aNil))))))
def N__law_twin : List Str := ["store", "high", "wide", "base", "lots", "i", "kind", "lot", "k"]
theorem sc__law_twin : FnScope N__law_twin ["store", "high", "wide"] (defScope s__law_twin) := ⟨rfl, rfl, rfl, by decide +kernel, rfl, by decide +kernel, by decide +kernel⟩
def den__law_twin : List D → M D := runF 3 9 (gSeq (gAsg 3 [] (fNew (compV (eName 8) (iRan 1 (aC (f2 dAdd (fC (.int 1)) (fL den__law_take (aC (gVar 0) (aC (fC (.int 3)) aN)))) aN)) tYes (fL den__law_lot (aC (gVar 0) (aC (gVar 2) aN)))))) (gSeq (gNew 4 [] (lDis aN)) (gSeq (gFor (iRan 1 (aC (gVar 1) aN)) (bName 5) (gSeq (gAsg 6 [] (fL den__law_take (aC (gVar 0) (aC (fC (.int 4)) aN)))) (gSeq (gAsg 7 [] (fL den__law_pick (aC (gVar 0) (aC (gVar 3) aN)))) (gSeq (gIf (t2 dEq (gVar 6) (fC (.int 0))) (gAsg 7 [] (fL den__law_join (aC (fNew (lDis (aC (gVar 7) (aC (fL den__law_pick (aC (gVar 0) (aC (gVar 3) aN))) aN)))) aN))) (fun ρ => pure (.nx ρ))) (gSeq (gIf (tAnd (t2 dEq (gVar 6) (fC (.int 1))) (t2 dEq (fL den__law_take (aC (gVar 0) (aC (fC (.int 3)) aN))) (fC (.int 0)))) (gAsg 7 [] (fTup aN)) (fun ρ => pure (.nx ρ))) (gApp 4 [] (gVar 7))))))) (gRet (fL den__law_of (aC (gVar 4) (aC (gVar 2) aN)))))))
theorem ok__law_twin {f : Addr} {fd : FuncData} (F : FunD K "_law_twin" "_law_twin" (defArgs s__law_twin) (defBody s__law_twin) (defScope s__law_twin) [] [] f fd) (gf : mg "_law_twin" = some (.ref f)) (c__law_join : Cal P w K mg base 1 "_law_join" (defArgs s__law_join) (defBody s__law_join) (defScope s__law_join) ["lots"] den__law_join) (c__law_lot : Cal P w K mg base 3 "_law_lot" (defArgs s__law_lot) (defBody s__law_lot) (defScope s__law_lot) ["store", "limit"] den__law_lot) (c__law_of : Cal P w K mg base 1 "_law_of" (defArgs s__law_of) (defBody s__law_of) (defScope s__law_of) ["lots", "wide"] den__law_of) (c__law_pick : Cal P w K mg base 3 "_law_pick" (defArgs s__law_pick) (defBody s__law_pick) (defScope s__law_pick) ["store", "things"] den__law_pick) (c__law_take : Cal P w K mg base 2 "_law_take" (defArgs s__law_take) (defBody s__law_take) (defScope s__law_take) ["store", "many"] den__law_take) (n_range : mg "range" = none) :
    Cal P w K mg base 4 "_law_twin" (defArgs s__law_twin) (defBody s__law_twin) (defScope s__law_twin) ["store", "high", "wide"] den__law_twin := by
  refine ⟨f, fd, gf, F, F.bindsN fun _ _ _ _ _ _ us hl => match us, hl with | [_, _, _], _ => rfl, fn_den (N := N__law_twin) F sc__law_twin fun cdv A outer s H E hr => ?_⟩
  have hN : N__law_twin.Nodup := sc__law_twin.nd
  have hp : PassesOwn (model P w) _ _ _ := passes_of (X := cxOf (L2N.CX P w) P w K mg base N__law_twin "_law_twin" (defScope s__law_twin) f cdv A outer s H E) rfl
  have tk : Den.Takes (cxOf (L2N.CX P w) P w K mg base N__law_twin "_law_twin" (defScope s__law_twin) f cdv A outer s H E) (wE E) := L2N.takes_of rfl rfl rfl rfl
  exact (ss_cons (sLetLc [] (sLc (W := wE E) 3 8 [] rfl hN (jR1 n_range (aCons (xAdd xI (xCall c__law_take tk (hr.mono (by omega)) (aCons (xV 0) (aCons xI aNil)))) aNil)) (fun _ _ _ _ _ => cNone) (fun _ _ _ _ _ => (xCall c__law_lot tk0 (hr.mono (by omega)) (aCons (xV 0) (aCons (xV 2) aNil)))))) (ss_cons (sOwn 4 [] hN (lLst aNil)) (ss_cons (sFor 5 hN hp rfl (jR1 n_range (aCons (xV 1) aNil)) (ss_cons (sLet 6 [] hN (xCall c__law_take tk (hr.mono (by omega)) (aCons (xV 0) (aCons xI aNil)))) (ss_cons (sLet 7 [] hN (xCall c__law_pick tk (hr.mono (by omega)) (aCons (xV 0) (aCons (xV 3) aNil)))) (ss_cons (ss_if (cEq hr (xV 6) xI) (ss_one (sLet 7 [] hN (xCall c__law_join tk (hr.mono (by omega)) (aCons (xNew (lLst (aCons (xV 7) (aCons (xCall c__law_pick tk (hr.mono (by omega)) (aCons (xV 0) (aCons (xV 3) aNil))) aNil)))) aNil)))) ss_nil) (ss_cons (ss_if (cBo (cAnd (cEq hr (xV 6) xI) (cAnd1 (cEq hr (xCall c__law_take tk (hr.mono (by omega)) (aCons (xV 0) (aCons xI aNil))) xI)))) (ss_one (sLet 7 [] hN (xTup aNil))) ss_nil) (ss_one (sApp 4 [] (xV 7)))))))) (ss_one (sRet (xCall c__law_of tk (hr.mono (by omega)) (aCons (xV 4) (aCons (xV 2) aNil))))))))
def N__law_turn : List Str := ["grid", "rows", "k", "row"]
theorem sc__law_turn : FnScope N__law_turn ["grid"] (defScope s__law_turn) := ⟨rfl, rfl, rfl, by decide +kernel, rfl, by decide +kernel, by decide +kernel⟩
def den__law_turn : List D → M D := runF 1 4 (gSeq (gNew 1 [] (lDis aN)) (gSeq (gFor (iRan 1 (aC (f2 dIx (gVar 0) (fC (.int 2))) aN)) (bName 2) (gApp 1 [] (fL dTuple (aC (fNew (compV (eName 3) (iSeq (f2 dIx (gVar 0) (fC (.int 3)))) tYes (f2 dIx (gVar 3) (gVar 2)))) aN)))) (gRet (fTup (aC (fC (.str "table")) (aC (f2 dIx (gVar 0) (fC (.int 2))) (aC (f2 dIx (gVar 0) (fC (.int 1))) (aC (fL dTuple (aC (gVar 1) aN)) aN))))))))
theorem ok__law_turn {f : Addr} {fd : FuncData} (F : FunD K "_law_turn" "_law_turn" (defArgs s__law_turn) (defBody s__law_turn) (defScope s__law_turn) [] [] f fd) (gf : mg "_law_turn" = some (.ref f)) (n_range : mg "range" = none) (n_tuple : mg "tuple" = none) :
    Cal P w K mg base 1 "_law_turn" (defArgs s__law_turn) (defBody s__law_turn) (defScope s__law_turn) ["grid"] den__law_turn := by
  refine ⟨f, fd, gf, F, F.bindsN fun _ _ _ _ _ _ us hl => match us, hl with | [_], _ => rfl, fn_den (N := N__law_turn) F sc__law_turn fun cdv A outer s H E hr => ?_⟩
  have hN : N__law_turn.Nodup := sc__law_turn.nd
  have hp : PassesOwn (model P w) _ _ _ := passes_of (X := cxOf (L2N.CX P w) P w K mg base N__law_turn "_law_turn" (defScope s__law_turn) f cdv A outer s H E) rfl
  have tk : Den.Takes (cxOf (L2N.CX P w) P w K mg base N__law_turn "_law_turn" (defScope s__law_turn) f cdv A outer s H E) (wE E) := L2N.takes_of rfl rfl rfl rfl
  exact (ss_cons (sOwn 1 [] hN (lLst aNil)) (ss_cons (sFor 2 hN hp rfl (jR1 n_range (aCons (xIx (xV 0) xI) aNil)) (ss_one (sApp 1 [] (xTuple n_tuple (aCons (xNew (lLc 3 rfl hN (jSeq (xIx (xV 0) xI)) (fun _ _ _ _ _ => cNone) (fun _ _ _ _ _ => (xIx (xV 3) (xV 2))))) aNil))))) (ss_one (sRet (xTup (aCons xS (aCons (xIx (xV 0) xI) (aCons (xIx (xV 0) xI) (aCons (xTuple n_tuple (aCons (xV 1) aNil)) aNil)))))))))
def N__law_shuffle : List Str := ["store", "things", "left", "out", "k", "one"]
theorem sc__law_shuffle : FnScope N__law_shuffle ["store", "things"] (defScope s__law_shuffle) := ⟨rfl, rfl, rfl, by decide +kernel, rfl, by decide +kernel, by decide +kernel⟩
def den__law_shuffle : List D → M D := runF 2 6 (gSeq (gNew 2 [] (compV (eName 5) (iSeq (gVar 1)) tYes (gVar 5))) (gSeq (gNew 3 [] (lDis aN)) (gSeq (gFor (iRan 1 (aC (fL dLen (aC (gVar 1) aN)) aN)) (bName 4) (gMov 3 2 (fL den__law_take (aC (gVar 0) (aC (fL dLen (aC (gVar 2) aN)) aN))))) (gRet (gVar 3)))))
theorem ok__law_shuffle {f : Addr} {fd : FuncData} (F : FunD K "_law_shuffle" "_law_shuffle" (defArgs s__law_shuffle) (defBody s__law_shuffle) (defScope s__law_shuffle) [] [] f fd) (gf : mg "_law_shuffle" = some (.ref f)) (c__law_take : Cal P w K mg base 2 "_law_take" (defArgs s__law_take) (defBody s__law_take) (defScope s__law_take) ["store", "many"] den__law_take) (n_len : mg "len" = none) (n_range : mg "range" = none) :
    Cal P w K mg base 3 "_law_shuffle" (defArgs s__law_shuffle) (defBody s__law_shuffle) (defScope s__law_shuffle) ["store", "things"] den__law_shuffle := by
  refine ⟨f, fd, gf, F, F.bindsN fun _ _ _ _ _ _ us hl => match us, hl with | [_, _], _ => rfl, fn_den (N := N__law_shuffle) F sc__law_shuffle fun cdv A outer s H E hr => ?_⟩
  have hN : N__law_shuffle.Nodup := sc__law_shuffle.nd
  have hp : PassesOwn (model P w) _ _ _ := passes_of (X := cxOf (L2N.CX P w) P w K mg base N__law_shuffle "_law_shuffle" (defScope s__law_shuffle) f cdv A outer s H E) rfl
  have tk : Den.Takes (cxOf (L2N.CX P w) P w K mg base N__law_shuffle "_law_shuffle" (defScope s__law_shuffle) f cdv A outer s H E) (wE E) := L2N.takes_of rfl rfl rfl rfl
  exact (ss_cons (sOwnLc [] (sLc (W := wE E) 2 5 [] rfl hN (jSeq (xV 1)) (fun _ _ _ _ _ => cNone) (fun _ _ _ _ _ => (xV 5)))) (ss_cons (sOwn 3 [] hN (lLst aNil)) (ss_cons (sFor 4 hN hp rfl (jR1 n_range (aCons (xLen n_len (aCons (xV 1) aNil)) aNil)) (ss_one (sMov 3 2 (xCall c__law_take tk (hr.mono (by omega)) (aCons (xV 0) (aCons (xLen n_len (aCons (xV 2) aNil)) aNil)))))) (ss_one (sRet (xV 3))))))
def N__law_units : List Str := ["store", "many", "many_high", "places", "lots", "j", "k"]
theorem sc__law_units : FnScope N__law_units ["store", "many", "many_high"] (defScope s__law_units) := ⟨rfl, rfl, rfl, by decide +kernel, rfl, by decide +kernel, by decide +kernel⟩
def den__law_units : List D → M D := runF 3 7 (gSeq (gAsg 3 [] (fNew (gSlice (fL den__law_shuffle (aC (gVar 0) (aC (fNew (compV (eName 6) (iRan 1 (aC (gVar 2) aN)) tYes (gVar 6))) aN))) oNo (oYes (gVar 1))))) (gSeq (gNew 4 [] (compV (eName 6) (iRan 1 (aC (gVar 2) aN)) tYes (fL den__law_lot (aC (gVar 0) (aC (gVar 1) aN))))) (gSeq (gFor (iRan 1 (aC (gVar 1) aN)) (bName 5) (gSet 4 [] (fTup (aC (gVar 5) aN)) (f2 dIx (gVar 3) (gVar 5)))) (gRet (fNew (lDis (aC (gVar 4) (aC (gVar 3) aN))))))))
theorem ok__law_units {f : Addr} {fd : FuncData} (F : FunD K "_law_units" "_law_units" (defArgs s__law_units) (defBody s__law_units) (defScope s__law_units) [] [] f fd) (gf : mg "_law_units" = some (.ref f)) (c__law_lot : Cal P w K mg base 3 "_law_lot" (defArgs s__law_lot) (defBody s__law_lot) (defScope s__law_lot) ["store", "limit"] den__law_lot) (c__law_shuffle : Cal P w K mg base 3 "_law_shuffle" (defArgs s__law_shuffle) (defBody s__law_shuffle) (defScope s__law_shuffle) ["store", "things"] den__law_shuffle) (n_range : mg "range" = none) :
    Cal P w K mg base 4 "_law_units" (defArgs s__law_units) (defBody s__law_units) (defScope s__law_units) ["store", "many", "many_high"] den__law_units := by
  refine ⟨f, fd, gf, F, F.bindsN fun _ _ _ _ _ _ us hl => match us, hl with | [_, _, _], _ => rfl, fn_den (N := N__law_units) F sc__law_units fun cdv A outer s H E hr => ?_⟩
  have hN : N__law_units.Nodup := sc__law_units.nd
  have hp : PassesOwn (model P w) _ _ _ := passes_of (X := cxOf (L2N.CX P w) P w K mg base N__law_units "_law_units" (defScope s__law_units) f cdv A outer s H E) rfl
  have tk : Den.Takes (cxOf (L2N.CX P w) P w K mg base N__law_units "_law_units" (defScope s__law_units) f cdv A outer s H E) (wE E) := L2N.takes_of rfl rfl rfl rfl
  exact (ss_cons (sLet 3 [] hN (xNew (lSl (xCall c__law_shuffle tk (hr.mono (by omega)) (aCons (xV 0) (aCons (xNew (lLc 6 rfl hN (jR1 n_range (aCons (xV 2) aNil)) (fun _ _ _ _ _ => cNone) (fun _ _ _ _ _ => (xV 6)))) aNil))) oNone (oSome (xV 1))))) (ss_cons (sOwnLc [] (sLc (W := wE E) 4 6 [] rfl hN (jR1 n_range (aCons (xV 2) aNil)) (fun _ _ _ _ _ => cNone) (fun _ _ _ _ _ => (xCall c__law_lot tk0 (hr.mono (by omega)) (aCons (xV 0) (aCons (xV 1) aNil)))))) (ss_cons (sFor 5 hN hp rfl (jR1 n_range (aCons (xV 1) aNil)) (ss_one (sSet 4 [] (xTup (aCons (xV 5) aNil)) (xIx (xV 3) (xV 5))))) (ss_one (sRet (xNew (lLst (aCons (xV 4) (aCons (xV 3) aNil)))))))))
def N__law_lots : List Str := ["grid", "out", "row", "k"]
theorem sc__law_lots : FnScope N__law_lots ["grid"] (defScope s__law_lots) := ⟨rfl, rfl, rfl, by decide +kernel, rfl, by decide +kernel, by decide +kernel⟩
def den__law_lots : List D → M D := runF 1 4 (gSeq (gNew 1 [] (lDis aN)) (gSeq (gFor (iSeq (f2 dIx (gVar 0) (fC (.int 3)))) (bName 2) (gApp 1 [] (fL dTuple (aC (fNew (compV (eName 3) (iRan 1 (aC (f2 dIx (gVar 0) (fC (.int 2))) aN)) (tT (f2 dIx (gVar 2) (gVar 3))) (gVar 3))) aN)))) (gRetO 1)))
theorem ok__law_lots {f : Addr} {fd : FuncData} (F : FunD K "_law_lots" "_law_lots" (defArgs s__law_lots) (defBody s__law_lots) (defScope s__law_lots) [] [] f fd) (gf : mg "_law_lots" = some (.ref f)) (n_range : mg "range" = none) (n_tuple : mg "tuple" = none) :
    Cal P w K mg base 1 "_law_lots" (defArgs s__law_lots) (defBody s__law_lots) (defScope s__law_lots) ["grid"] den__law_lots := by
  refine ⟨f, fd, gf, F, F.bindsN fun _ _ _ _ _ _ us hl => match us, hl with | [_], _ => rfl, fn_den (N := N__law_lots) F sc__law_lots fun cdv A outer s H E hr => ?_⟩
  have hN : N__law_lots.Nodup := sc__law_lots.nd
  have hp : PassesOwn (model P w) _ _ _ := passes_of (X := cxOf (L2N.CX P w) P w K mg base N__law_lots "_law_lots" (defScope s__law_lots) f cdv A outer s H E) rfl
  have tk : Den.Takes (cxOf (L2N.CX P w) P w K mg base N__law_lots "_law_lots" (defScope s__law_lots) f cdv A outer s H E) (wE E) := L2N.takes_of rfl rfl rfl rfl
  exact (ss_cons (sOwn 1 [] hN (lLst aNil)) (ss_cons (sFor 2 hN hp rfl (jSeq (xIx (xV 0) xI)) (ss_one (sApp 1 [] (xTuple n_tuple (aCons (xNew (lLc 3 rfl hN (jR1 n_range (aCons (xIx (xV 0) xI) aNil)) (fun _ _ _ _ _ => (cOne (cTru (xIx (xV 2) (xV 3))))) (fun _ _ _ _ _ => (xV 3)))) aNil))))) (ss_one (sRetO 1))))
def denf__law_lots : List D → M (List D) := runFF 1 4 (gSeq (gNew 1 [] (lDis aN)) (gSeq (gFor (iSeq (f2 dIx (gVar 0) (fC (.int 3)))) (bName 2) (gApp 1 [] (fL dTuple (aC (fNew (compV (eName 3) (iRan 1 (aC (f2 dIx (gVar 0) (fC (.int 2))) aN)) (tT (f2 dIx (gVar 2) (gVar 3))) (gVar 3))) aN)))) (gRetO 1)))
theorem okF__law_lots {f : Addr} {fd : FuncData} (F : FunD K "_law_lots" "_law_lots" (defArgs s__law_lots) (defBody s__law_lots) (defScope s__law_lots) [] [] f fd) (gf : mg "_law_lots" = some (.ref f)) (n_range : mg "range" = none) (n_tuple : mg "tuple" = none) :
    CalF P w K mg base 1 "_law_lots" (defArgs s__law_lots) (defBody s__law_lots) (defScope s__law_lots) ["grid"] denf__law_lots := by
  refine ⟨f, fd, gf, F, F.bindsN fun _ _ _ _ _ _ us hl => match us, hl with | [_], _ => rfl, fn_denF (N := N__law_lots) F sc__law_lots fun cdv A outer s H E hr => ?_⟩
  have hN : N__law_lots.Nodup := sc__law_lots.nd
  have hp : PassesOwn (model P w) _ _ _ := passes_of (X := cxOf (L2N.CX P w) P w K mg base N__law_lots "_law_lots" (defScope s__law_lots) f cdv A outer s H E) rfl
  have tk : Den.Takes (cxOf (L2N.CX P w) P w K mg base N__law_lots "_law_lots" (defScope s__law_lots) f cdv A outer s H E) (wE E) := L2N.takes_of rfl rfl rfl rfl
  exact (ss_cons (sOwn 1 [] hN (lLst aNil)) (ss_cons (sFor 2 hN hp rfl (jSeq (xIx (xV 0) xI)) (ss_one (sApp 1 [] (xTuple n_tuple (aCons (xNew (lLc 3 rfl hN (jR1 n_range (aCons (xIx (xV 0) xI) aNil)) (fun _ _ _ _ _ => (cOne (cTru (xIx (xV 2) (xV 3))))) (fun _ _ _ _ _ => (xV 3)))) aNil))))) (ss_one (sRetO 1))))
def N__law_through : List Str := ["lot", "lots", "k"]
theorem sc__law_through : FnScope N__law_through ["lot", "lots"] (defScope s__law_through) := ⟨rfl, rfl, rfl, by decide +kernel, rfl, by decide +kernel, by decide +kernel⟩
def den__law_through : List D → M D := runF 2 3 (gRet (fL den__law_join (aC (fNew (compV (eName 2) (iSeq (gVar 0)) tYes (f2 dIx (gVar 1) (gVar 2)))) aN)))
theorem ok__law_through {f : Addr} {fd : FuncData} (F : FunD K "_law_through" "_law_through" (defArgs s__law_through) (defBody s__law_through) (defScope s__law_through) [] [] f fd) (gf : mg "_law_through" = some (.ref f)) (c__law_join : Cal P w K mg base 1 "_law_join" (defArgs s__law_join) (defBody s__law_join) (defScope s__law_join) ["lots"] den__law_join) :
    Cal P w K mg base 2 "_law_through" (defArgs s__law_through) (defBody s__law_through) (defScope s__law_through) ["lot", "lots"] den__law_through := by
  refine ⟨f, fd, gf, F, F.bindsN fun _ _ _ _ _ _ us hl => match us, hl with | [_, _], _ => rfl, fn_den (N := N__law_through) F sc__law_through fun cdv A outer s H E hr => ?_⟩
  have hN : N__law_through.Nodup := sc__law_through.nd
  have hp : PassesOwn (model P w) _ _ _ := passes_of (X := cxOf (L2N.CX P w) P w K mg base N__law_through "_law_through" (defScope s__law_through) f cdv A outer s H E) rfl
  have tk : Den.Takes (cxOf (L2N.CX P w) P w K mg base N__law_through "_law_through" (defScope s__law_through) f cdv A outer s H E) (wE E) := L2N.takes_of rfl rfl rfl rfl
  exact (ss_one (sRet (xCall c__law_join tk (hr.mono (by omega)) (aCons (xNew (lLc 2 rfl hN (jSeq (xV 0)) (fun _ _ _ _ _ => cNone) (fun _ _ _ _ _ => (xIx (xV 1) (xV 2))))) aNil))))
def N__law_behind : List Str := ["one", "other", "lots", "lot"]
theorem sc__law_behind : FnScope N__law_behind ["one", "other"] (defScope s__law_behind) := ⟨rfl, rfl, rfl, by decide +kernel, rfl, by decide +kernel, by decide +kernel⟩
def den__law_behind : List D → M D := runF 2 4 (gSeq (gAsg 2 [] (fL den__law_lots (aC (gVar 1) aN))) (gRet (fL den__law_of (aC (fNew (compV (eName 3) (iSeq (fL den__law_lots (aC (gVar 0) aN))) tYes (fL den__law_through (aC (gVar 3) (aC (gVar 2) aN))))) (aC (f2 dIx (gVar 1) (fC (.int 2))) aN)))))
theorem ok__law_behind {f : Addr} {fd : FuncData} (F : FunD K "_law_behind" "_law_behind" (defArgs s__law_behind) (defBody s__law_behind) (defScope s__law_behind) [] [] f fd) (gf : mg "_law_behind" = some (.ref f)) (c__law_lots : Cal P w K mg base 1 "_law_lots" (defArgs s__law_lots) (defBody s__law_lots) (defScope s__law_lots) ["grid"] den__law_lots) (c__law_of : Cal P w K mg base 1 "_law_of" (defArgs s__law_of) (defBody s__law_of) (defScope s__law_of) ["lots", "wide"] den__law_of) (c__law_through : Cal P w K mg base 2 "_law_through" (defArgs s__law_through) (defBody s__law_through) (defScope s__law_through) ["lot", "lots"] den__law_through) :
    Cal P w K mg base 3 "_law_behind" (defArgs s__law_behind) (defBody s__law_behind) (defScope s__law_behind) ["one", "other"] den__law_behind := by
  refine ⟨f, fd, gf, F, F.bindsN fun _ _ _ _ _ _ us hl => match us, hl with | [_, _], _ => rfl, fn_den (N := N__law_behind) F sc__law_behind fun cdv A outer s H E hr => ?_⟩
  have hN : N__law_behind.Nodup := sc__law_behind.nd
  have hp : PassesOwn (model P w) _ _ _ := passes_of (X := cxOf (L2N.CX P w) P w K mg base N__law_behind "_law_behind" (defScope s__law_behind) f cdv A outer s H E) rfl
  have tk : Den.Takes (cxOf (L2N.CX P w) P w K mg base N__law_behind "_law_behind" (defScope s__law_behind) f cdv A outer s H E) (wE E) := L2N.takes_of rfl rfl rfl rfl
  exact (ss_cons (sLet 2 [] hN (xCall c__law_lots tk (hr.mono (by omega)) (aCons (xV 1) aNil))) (ss_one (sRet (xCall c__law_of tk (hr.mono (by omega)) (aCons (xNew (lLc 3 rfl hN (jSeq (xCall c__law_lots tk (hr.mono (by omega)) (aCons (xV 0) aNil))) (fun _ _ _ _ _ => cNone) (fun _ _ _ _ _ => (xCall c__law_through tk0 (hr.mono (by omega)) (aCons (xV 3) (aCons (xV 2) aNil)))))) (aCons (xIx (xV 1) xI) aNil))))))
def N__law_spread : List Str := ["store", "heart", "high", "wide", "ups", "sides", "first_part", "last_part", "whole", "up_back", "side_back", "spot"]
theorem sc__law_spread : FnScope N__law_spread ["store", "heart", "high", "wide"] (defScope s__law_spread) := ⟨rfl, rfl, rfl, by decide +kernel, rfl, by decide +kernel, by decide +kernel⟩
def den__law_spread : List D → M D := runF 4 12 (gSeq (gAsg 4 [] (fL den__law_units (aC (gVar 0) (aC (f2 dIx (gVar 1) (fC (.int 1))) (aC (gVar 2) aN))))) (gSeq (gAsg 5 [] (fL den__law_units (aC (gVar 0) (aC (f2 dIx (gVar 1) (fC (.int 2))) (aC (gVar 3) aN))))) (gSeq (gAsg 6 [] (fL den__law_of (aC (f2 dIx (gVar 4) (fC (.int 0))) (aC (f2 dIx (gVar 1) (fC (.int 1))) aN)))) (gSeq (gAsg 7 [] (fL den__law_turn (aC (fL den__law_of (aC (f2 dIx (gVar 5) (fC (.int 0))) (aC (f2 dIx (gVar 1) (fC (.int 2))) aN))) aN))) (gSeq (gAsg 8 [] (fL den__law_behind (aC (fL den__law_behind (aC (gVar 6) (aC (gVar 1) aN))) (aC (gVar 7) aN)))) (gSeq (gAsg 9 [] (fL den__law_of (aC (fNew (compV (eName 11) (iSeq (f2 dIx (gVar 4) (fC (.int 1)))) tYes (fTup (aC (gVar 11) aN)))) (aC (gVar 2) aN)))) (gSeq (gAsg 10 [] (fL den__law_turn (aC (fL den__law_of (aC (fNew (compV (eName 11) (iSeq (f2 dIx (gVar 5) (fC (.int 1)))) tYes (fTup (aC (gVar 11) aN)))) (aC (gVar 3) aN))) aN))) (gRet (fNew (lDis (aC (gVar 8) (aC (gVar 6) (aC (gVar 7) (aC (gVar 9) (aC (gVar 10) aN)))))))))))))))
theorem ok__law_spread {f : Addr} {fd : FuncData} (F : FunD K "_law_spread" "_law_spread" (defArgs s__law_spread) (defBody s__law_spread) (defScope s__law_spread) [] [] f fd) (gf : mg "_law_spread" = some (.ref f)) (c__law_behind : Cal P w K mg base 3 "_law_behind" (defArgs s__law_behind) (defBody s__law_behind) (defScope s__law_behind) ["one", "other"] den__law_behind) (c__law_of : Cal P w K mg base 1 "_law_of" (defArgs s__law_of) (defBody s__law_of) (defScope s__law_of) ["lots", "wide"] den__law_of) (c__law_turn : Cal P w K mg base 1 "_law_turn" (defArgs s__law_turn) (defBody s__law_turn) (defScope s__law_turn) ["grid"] den__law_turn) (c__law_units : Cal P w K mg base 4 "_law_units" (defArgs s__law_units) (defBody s__law_units) (defScope s__law_units) ["store", "many", "many_high"] den__law_units) :
    Cal P w K mg base 5 "_law_spread" (defArgs s__law_spread) (defBody s__law_spread) (defScope s__law_spread) ["store", "heart", "high", "wide"] den__law_spread := by
  refine ⟨f, fd, gf, F, F.bindsN fun _ _ _ _ _ _ us hl => match us, hl with | [_, _, _, _], _ => rfl, fn_den (N := N__law_spread) F sc__law_spread fun cdv A outer s H E hr => ?_⟩
  have hN : N__law_spread.Nodup := sc__law_spread.nd
  have hp : PassesOwn (model P w) _ _ _ := passes_of (X := cxOf (L2N.CX P w) P w K mg base N__law_spread "_law_spread" (defScope s__law_spread) f cdv A outer s H E) rfl
  have tk : Den.Takes (cxOf (L2N.CX P w) P w K mg base N__law_spread "_law_spread" (defScope s__law_spread) f cdv A outer s H E) (wE E) := L2N.takes_of rfl rfl rfl rfl
  exact (ss_cons (sLet 4 [] hN (xCall c__law_units tk (hr.mono (by omega)) (aCons (xV 0) (aCons (xIx (xV 1) xI) (aCons (xV 2) aNil))))) (ss_cons (sLet 5 [] hN (xCall c__law_units tk (hr.mono (by omega)) (aCons (xV 0) (aCons (xIx (xV 1) xI) (aCons (xV 3) aNil))))) (ss_cons (sLet 6 [] hN (xCall c__law_of tk (hr.mono (by omega)) (aCons (xIx (xV 4) xI) (aCons (xIx (xV 1) xI) aNil)))) (ss_cons (sLet 7 [] hN (xCall c__law_turn tk (hr.mono (by omega)) (aCons (xCall c__law_of tk (hr.mono (by omega)) (aCons (xIx (xV 5) xI) (aCons (xIx (xV 1) xI) aNil))) aNil))) (ss_cons (sLet 8 [] hN (xCall c__law_behind tk (hr.mono (by omega)) (aCons (xCall c__law_behind tk (hr.mono (by omega)) (aCons (xV 6) (aCons (xV 1) aNil))) (aCons (xV 7) aNil)))) (ss_cons (sLet 9 [] hN (xCall c__law_of tk (hr.mono (by omega)) (aCons (xNew (lLc 11 rfl hN (jSeq (xIx (xV 4) xI)) (fun _ _ _ _ _ => cNone) (fun _ _ _ _ _ => (xTup (aCons (xV 11) aNil))))) (aCons (xV 2) aNil)))) (ss_cons (sLet 10 [] hN (xCall c__law_turn tk (hr.mono (by omega)) (aCons (xCall c__law_of tk (hr.mono (by omega)) (aCons (xNew (lLc 11 rfl hN (jSeq (xIx (xV 5) xI)) (fun _ _ _ _ _ => cNone) (fun _ _ _ _ _ => (xTup (aCons (xV 11) aNil))))) (aCons (xV 3) aNil))) aNil))) (ss_one (sRet (xNew (lLst (aCons (xV 8) (aCons (xV 6) (aCons (xV 7) (aCons (xV 9) (aCons (xV 10) aNil))))))))))))))))
def N__law_placed : List Str := ["grid", "placing", "back", "lots", "k", "j"]
theorem sc__law_placed : FnScope N__law_placed ["grid", "placing"] (defScope s__law_placed) := ⟨rfl, rfl, rfl, by decide +kernel, rfl, by decide +kernel, by decide +kernel⟩
def den__law_placed : List D → M D := runF 2 6 (gSeq (gAsg 2 [] (fNew (compV (eName 4) (iRan 1 (aC (fL dLen (aC (gVar 1) aN)) aN)) tYes (gIndex (gVar 1) (aC (gVar 4) aN))))) (gSeq (gNew 3 [] (lDis aN)) (gSeq (gFor (iRan 1 (aC (fL dLen (aC (gVar 1) aN)) aN)) (bName 4) (gApp 3 [] (fL dTuple (aC (fNew (compV (eName 5) (iRan 1 (aC (fL dLen (aC (gVar 1) aN)) aN)) (tT (f2 dIx (f2 dIx (f2 dIx (gVar 0) (fC (.int 3))) (f2 dIx (gVar 2) (gVar 4))) (f2 dIx (gVar 2) (gVar 5)))) (gVar 5))) aN)))) (gRet (fL den__law_of (aC (gVar 3) (aC (fL dLen (aC (gVar 1) aN)) aN)))))))
theorem ok__law_placed {f : Addr} {fd : FuncData} (F : FunD K "_law_placed" "_law_placed" (defArgs s__law_placed) (defBody s__law_placed) (defScope s__law_placed) [] [] f fd) (gf : mg "_law_placed" = some (.ref f)) (c__law_of : Cal P w K mg base 1 "_law_of" (defArgs s__law_of) (defBody s__law_of) (defScope s__law_of) ["lots", "wide"] den__law_of) (n_len : mg "len" = none) (n_range : mg "range" = none) (n_tuple : mg "tuple" = none) :
    Cal P w K mg base 2 "_law_placed" (defArgs s__law_placed) (defBody s__law_placed) (defScope s__law_placed) ["grid", "placing"] den__law_placed := by
  refine ⟨f, fd, gf, F, F.bindsN fun _ _ _ _ _ _ us hl => match us, hl with | [_, _], _ => rfl, fn_den (N := N__law_placed) F sc__law_placed fun cdv A outer s H E hr => ?_⟩
  have hN : N__law_placed.Nodup := sc__law_placed.nd
  have hp : PassesOwn (model P w) _ _ _ := passes_of (X := cxOf (L2N.CX P w) P w K mg base N__law_placed "_law_placed" (defScope s__law_placed) f cdv A outer s H E) rfl
  have tk : Den.Takes (cxOf (L2N.CX P w) P w K mg base N__law_placed "_law_placed" (defScope s__law_placed) f cdv A outer s H E) (wE E) := L2N.takes_of rfl rfl rfl rfl
  exact (ss_cons (sLet 2 [] hN (xNew (lLc 4 rfl hN (jR1 n_range (aCons (xLen n_len (aCons (xV 1) aNil)) aNil)) (fun _ _ _ _ _ => cNone) (fun _ _ _ _ _ => (se_index (xV 1) (aCons (xV 4) aNil)))))) (ss_cons (sOwn 3 [] hN (lLst aNil)) (ss_cons (sFor 4 hN hp rfl (jR1 n_range (aCons (xLen n_len (aCons (xV 1) aNil)) aNil)) (ss_one (sApp 3 [] (xTuple n_tuple (aCons (xNew (lLc 5 rfl hN (jR1 n_range (aCons (xLen n_len (aCons (xV 1) aNil)) aNil)) (fun _ _ _ _ _ => (cOne (cTru (xIx (xIx (xIx (xV 0) xI) (xIx (xV 2) (xV 4))) (xIx (xV 2) (xV 5)))))) (fun _ _ _ _ _ => (xV 5)))) aNil))))) (ss_one (sRet (xCall c__law_of tk (hr.mono (by omega)) (aCons (xV 3) (aCons (xLen n_len (aCons (xV 1) aNil)) aNil))))))))
def N__law_placing : List Str := ["store", "many", "kind", "k"]
theorem sc__law_placing : FnScope N__law_placing ["store", "many"] (defScope s__law_placing) := ⟨rfl, rfl, rfl, by decide +kernel, rfl, by decide +kernel, by decide +kernel⟩
def den__law_placing : List D → M D := runF 2 4 (gSeq (gAsg 2 [] (fL den__law_take (aC (gVar 0) (aC (fC (.int 6)) aN)))) (gSeq (gIf (t2 dEq (gVar 2) (fC (.int 0))) (gRet (fL dTuple (aC (fNew (compV (eName 3) (iRan 1 (aC (gVar 1) aN)) tYes (gVar 3))) aN))) (fun ρ => pure (.nx ρ))) (gSeq (gIf (t2 dEq (gVar 2) (fC (.int 1))) (gRet (fL dTuple (aC (fNew (compV (eName 3) (iRan 1 (aC (gVar 1) aN)) tYes (f2 dMod (fL dInt (aC (f2 dAdd (gVar 3) (fC (.int 1))) aN)) (gVar 1)))) aN))) (fun ρ => pure (.nx ρ))) (gSeq (gIf (t2 dEq (gVar 2) (fC (.int 2))) (gRet (fL dTuple (aC (fNew (compV (eName 3) (iRan 1 (aC (gVar 1) aN)) tYes (f2 dSub (f2 dSub (gVar 1) (fC (.int 1))) (gVar 3)))) aN))) (fun ρ => pure (.nx ρ))) (gRet (fL dTuple (aC (fL den__law_shuffle (aC (gVar 0) (aC (fNew (compV (eName 3) (iRan 1 (aC (gVar 1) aN)) tYes (gVar 3))) aN))) aN)))))))
theorem ok__law_placing {f : Addr} {fd : FuncData} (F : FunD K "_law_placing" "_law_placing" (defArgs s__law_placing) (defBody s__law_placing) (defScope s__law_placing) [] [] f fd) (gf : mg "_law_placing" = some (.ref f)) (c__law_shuffle : Cal P w K mg base 3 "_law_shuffle" (defArgs s__law_shuffle) (defBody s__law_shuffle) (defScope s__law_shuffle) ["store", "things"] den__law_shuffle) (c__law_take : Cal P w K mg base 2 "_law_take" (defArgs s__law_take) (defBody s__law_take) (defScope s__law_take) ["store", "many"] den__law_take) (n_int : mg "int" = none) (n_range : mg "range" = none) (n_tuple : mg "tuple" = none) :
    Cal P w K mg base 4 "_law_placing" (defArgs s__law_placing) (defBody s__law_placing) (defScope s__law_placing) ["store", "many"] den__law_placing := by
  refine ⟨f, fd, gf, F, F.bindsN fun _ _ _ _ _ _ us hl => match us, hl with | [_, _], _ => rfl, fn_den (N := N__law_placing) F sc__law_placing fun cdv A outer s H E hr => ?_⟩
  have hN : N__law_placing.Nodup := sc__law_placing.nd
  have hp : PassesOwn (model P w) _ _ _ := passes_of (X := cxOf (L2N.CX P w) P w K mg base N__law_placing "_law_placing" (defScope s__law_placing) f cdv A outer s H E) rfl
  have tk : Den.Takes (cxOf (L2N.CX P w) P w K mg base N__law_placing "_law_placing" (defScope s__law_placing) f cdv A outer s H E) (wE E) := L2N.takes_of rfl rfl rfl rfl
  exact (ss_cons (sLet 2 [] hN (xCall c__law_take tk (hr.mono (by omega)) (aCons (xV 0) (aCons xI aNil)))) (ss_cons (ss_if (cEq hr (xV 2) xI) (ss_one (sRet (xTuple n_tuple (aCons (xNew (lLc 3 rfl hN (jR1 n_range (aCons (xV 1) aNil)) (fun _ _ _ _ _ => cNone) (fun _ _ _ _ _ => (xV 3)))) aNil)))) ss_nil) (ss_cons (ss_if (cEq hr (xV 2) xI) (ss_one (sRet (xTuple n_tuple (aCons (xNew (lLc 3 rfl hN (jR1 n_range (aCons (xV 1) aNil)) (fun _ _ _ _ _ => cNone) (fun _ _ _ _ _ => (xMod (xInt n_int (aCons (xAdd (xV 3) xI) aNil)) (xV 1))))) aNil)))) ss_nil) (ss_cons (ss_if (cEq hr (xV 2) xI) (ss_one (sRet (xTuple n_tuple (aCons (xNew (lLc 3 rfl hN (jR1 n_range (aCons (xV 1) aNil)) (fun _ _ _ _ _ => cNone) (fun _ _ _ _ _ => (xSub (xSub (xV 1) xI) (xV 3))))) aNil)))) ss_nil) (ss_one (sRet (xTuple n_tuple (aCons (xCall c__law_shuffle tk (hr.mono (by omega)) (aCons (xV 0) (aCons (xNew (lLc 3 rfl hN (jR1 n_range (aCons (xV 1) aNil)) (fun _ _ _ _ _ => cNone) (fun _ _ _ _ _ => (xV 3)))) aNil))) aNil))))))))
def N__law_order : List Str := ["store", "many", "kind", "lots", "k", "beneath", "j"]
theorem sc__law_order : FnScope N__law_order ["store", "many"] (defScope s__law_order) := ⟨rfl, rfl, rfl, by decide +kernel, rfl, by decide +kernel, by decide +kernel⟩
def den__law_order : List D → M D := runF 2 7 (gSeq (gAsg 2 [] (fL den__law_take (aC (gVar 0) (aC (fC (.int 5)) aN)))) (gSeq (gNew 3 [] (lDis aN)) (gSeq (gFor (iRan 1 (aC (gVar 1) aN)) (bName 4) (gSeq (gAsg 5 [] (fL den__law_lot (aC (gVar 0) (aC (gVar 4) aN)))) (gSeq (gIf (t2 dEq (gVar 2) (fC (.int 0))) (gAsg 5 [] (fTup aN)) (fun ρ => pure (.nx ρ))) (gSeq (gIf (t2 dEq (gVar 2) (fC (.int 1))) (gAsg 5 [] (fL dTuple (aC (fNew (compV (eName 6) (iRan 1 (aC (gVar 4) aN)) tYes (gVar 6))) aN))) (fun ρ => pure (.nx ρ))) (gApp 3 (List.replicate 7 true) (fL den__law_join (aC (f2 dAdd (fNew (compV (eName 6) (iSeq (gVar 5)) tYes (f2 dIx (gVar 3) (gVar 6)))) (fNew (lDis (aC (fTup (aC (gVar 4) aN)) aN)))) aN))))))) (gRet (fL den__law_placed (aC (fL den__law_of (aC (gVar 3) (aC (gVar 1) aN))) (aC (fL den__law_placing (aC (gVar 0) (aC (gVar 1) aN))) aN)))))))
theorem ok__law_order {f : Addr} {fd : FuncData} (F : FunD K "_law_order" "_law_order" (defArgs s__law_order) (defBody s__law_order) (defScope s__law_order) [] [] f fd) (gf : mg "_law_order" = some (.ref f)) (c__law_join : Cal P w K mg base 1 "_law_join" (defArgs s__law_join) (defBody s__law_join) (defScope s__law_join) ["lots"] den__law_join) (c__law_lot : Cal P w K mg base 3 "_law_lot" (defArgs s__law_lot) (defBody s__law_lot) (defScope s__law_lot) ["store", "limit"] den__law_lot) (c__law_of : Cal P w K mg base 1 "_law_of" (defArgs s__law_of) (defBody s__law_of) (defScope s__law_of) ["lots", "wide"] den__law_of) (c__law_placed : Cal P w K mg base 2 "_law_placed" (defArgs s__law_placed) (defBody s__law_placed) (defScope s__law_placed) ["grid", "placing"] den__law_placed) (c__law_placing : Cal P w K mg base 4 "_law_placing" (defArgs s__law_placing) (defBody s__law_placing) (defScope s__law_placing) ["store", "many"] den__law_placing) (c__law_take : Cal P w K mg base 2 "_law_take" (defArgs s__law_take) (defBody s__law_take) (defScope s__law_take) ["store", "many"] den__law_take) (n_range : mg "range" = none) (n_tuple : mg "tuple" = none) :
    Cal P w K mg base 5 "_law_order" (defArgs s__law_order) (defBody s__law_order) (defScope s__law_order) ["store", "many"] den__law_order := by
  refine ⟨f, fd, gf, F, F.bindsN fun _ _ _ _ _ _ us hl => match us, hl with | [_, _], _ => rfl, fn_den (N := N__law_order) F sc__law_order fun cdv A outer s H E hr => ?_⟩
  have hN : N__law_order.Nodup := sc__law_order.nd
  have hp : PassesOwn (model P w) _ _ _ := passes_of (X := cxOf (L2N.CX P w) P w K mg base N__law_order "_law_order" (defScope s__law_order) f cdv A outer s H E) rfl
  have tk : Den.Takes (cxOf (L2N.CX P w) P w K mg base N__law_order "_law_order" (defScope s__law_order) f cdv A outer s H E) (wE E) := L2N.takes_of rfl rfl rfl rfl
  exact (ss_cons (sLet 2 [] hN (xCall c__law_take tk (hr.mono (by omega)) (aCons (xV 0) (aCons xI aNil)))) (ss_cons (sOwn 3 [] hN (lLst aNil)) (ss_cons (sFor 4 hN hp rfl (jR1 n_range (aCons (xV 1) aNil)) (ss_cons (sLet 5 [] hN (xCall c__law_lot tk (hr.mono (by omega)) (aCons (xV 0) (aCons (xV 4) aNil)))) (ss_cons (ss_if (cEq hr (xV 2) xI) (ss_one (sLet 5 [] hN (xTup aNil))) ss_nil) (ss_cons (ss_if (cEq hr (xV 2) xI) (ss_one (sLet 5 [] hN (xTuple n_tuple (aCons (xNew (lLc 6 rfl hN (jR1 n_range (aCons (xV 4) aNil)) (fun _ _ _ _ _ => cNone) (fun _ _ _ _ _ => (xV 6)))) aNil)))) ss_nil) (ss_one (sApp 3 (List.replicate 7 true) (xCall c__law_join tk (hr.mono (by omega)) (aCons (xAdd (xNew (lLc 6 rfl hN (jSeq (xV 5)) (fun _ _ _ _ _ => cNone) (fun _ _ _ _ _ => (xIx (xV 3) (xV 6))))) (xNew (lLst (aCons (xTup (aCons (xV 4) aNil)) aNil)))) aNil)))))))) (ss_one (sRet (xCall c__law_placed tk (hr.mono (by omega)) (aCons (xCall c__law_of tk (hr.mono (by omega)) (aCons (xV 3) (aCons (xV 1) aNil))) (aCons (xCall c__law_placing tk (hr.mono (by omega)) (aCons (xV 0) (aCons (xV 1) aNil))) aNil))))))))
def N__law_way : List Str := ["store", "things", "high", "wide"]
theorem sc__law_way : FnScope N__law_way ["store", "things", "high", "wide"] (defScope s__law_way) := ⟨rfl, rfl, rfl, by decide +kernel, rfl, by decide +kernel, by decide +kernel⟩
def den__law_way : List D → M D := runF 4 4 (gRet (f2 dIx (fL den__law_spread (aC (gVar 0) (aC (fL den__law_order (aC (gVar 0) (aC (gVar 1) aN))) (aC (gVar 2) (aC (gVar 3) aN))))) (fC (.int 0))))
theorem ok__law_way {f : Addr} {fd : FuncData} (F : FunD K "_law_way" "_law_way" (defArgs s__law_way) (defBody s__law_way) (defScope s__law_way) [] [] f fd) (gf : mg "_law_way" = some (.ref f)) (c__law_order : Cal P w K mg base 5 "_law_order" (defArgs s__law_order) (defBody s__law_order) (defScope s__law_order) ["store", "many"] den__law_order) (c__law_spread : Cal P w K mg base 5 "_law_spread" (defArgs s__law_spread) (defBody s__law_spread) (defScope s__law_spread) ["store", "heart", "high", "wide"] den__law_spread) :
    Cal P w K mg base 6 "_law_way" (defArgs s__law_way) (defBody s__law_way) (defScope s__law_way) ["store", "things", "high", "wide"] den__law_way := by
  refine ⟨f, fd, gf, F, F.bindsN fun _ _ _ _ _ _ us hl => match us, hl with | [_, _, _, _], _ => rfl, fn_den (N := N__law_way) F sc__law_way fun cdv A outer s H E hr => ?_⟩
  have hN : N__law_way.Nodup := sc__law_way.nd
  have hp : PassesOwn (model P w) _ _ _ := passes_of (X := cxOf (L2N.CX P w) P w K mg base N__law_way "_law_way" (defScope s__law_way) f cdv A outer s H E) rfl
  have tk : Den.Takes (cxOf (L2N.CX P w) P w K mg base N__law_way "_law_way" (defScope s__law_way) f cdv A outer s H E) (wE E) := L2N.takes_of rfl rfl rfl rfl
  exact (ss_one (sRet (xIx (xCall c__law_spread tk (hr.mono (by omega)) (aCons (xV 0) (aCons (xCall c__law_order tk (hr.mono (by omega)) (aCons (xV 0) (aCons (xV 1) aNil))) (aCons (xV 2) (aCons (xV 3) aNil))))) xI)))
def N__law_between : List Str := ["store", "least", "most", "kind"]
theorem sc__law_between : FnScope N__law_between ["store", "least", "most"] (defScope s__law_between) := ⟨rfl, rfl, rfl, by decide +kernel, rfl, by decide +kernel, by decide +kernel⟩
def den__law_between : List D → M D := runF 3 4 (gSeq (gIf (t2 dLe (gVar 2) (gVar 1)) (gRet (gVar 1)) (fun ρ => pure (.nx ρ))) (gSeq (gAsg 3 [] (fL den__law_take (aC (gVar 0) (aC (fC (.int 6)) aN)))) (gSeq (gIf (t2 dEq (gVar 3) (fC (.int 0))) (gRet (gVar 1)) (fun ρ => pure (.nx ρ))) (gSeq (gIf (t2 dEq (gVar 3) (fC (.int 1))) (gRet (gVar 2)) (fun ρ => pure (.nx ρ))) (gRet (f2 dAdd (gVar 1) (fL den__law_take (aC (gVar 0) (aC (f2 dAdd (f2 dSub (gVar 2) (gVar 1)) (fC (.int 1))) aN)))))))))
theorem ok__law_between {f : Addr} {fd : FuncData} (F : FunD K "_law_between" "_law_between" (defArgs s__law_between) (defBody s__law_between) (defScope s__law_between) [] [] f fd) (gf : mg "_law_between" = some (.ref f)) (c__law_take : Cal P w K mg base 2 "_law_take" (defArgs s__law_take) (defBody s__law_take) (defScope s__law_take) ["store", "many"] den__law_take) :
    Cal P w K mg base 3 "_law_between" (defArgs s__law_between) (defBody s__law_between) (defScope s__law_between) ["store", "least", "most"] den__law_between := by
  refine ⟨f, fd, gf, F, F.bindsN fun _ _ _ _ _ _ us hl => match us, hl with | [_, _, _], _ => rfl, fn_den (N := N__law_between) F sc__law_between fun cdv A outer s H E hr => ?_⟩
  have hN : N__law_between.Nodup := sc__law_between.nd
  have hp : PassesOwn (model P w) _ _ _ := passes_of (X := cxOf (L2N.CX P w) P w K mg base N__law_between "_law_between" (defScope s__law_between) f cdv A outer s H E) rfl
  have tk : Den.Takes (cxOf (L2N.CX P w) P w K mg base N__law_between "_law_between" (defScope s__law_between) f cdv A outer s H E) (wE E) := L2N.takes_of rfl rfl rfl rfl
  exact (ss_cons (ss_if (cLe (xV 2) (xV 1)) (ss_one (sRet (xV 1))) ss_nil) (ss_cons (sLet 3 [] hN (xCall c__law_take tk (hr.mono (by omega)) (aCons (xV 0) (aCons xI aNil)))) (ss_cons (ss_if (cEq hr (xV 3) xI) (ss_one (sRet (xV 1))) ss_nil) (ss_cons (ss_if (cEq hr (xV 3) xI) (ss_one (sRet (xV 2))) ss_nil) (ss_one (sRet (xAdd (xV 1) (xCall c__law_take tk (hr.mono (by omega)) (aCons (xV 0) (aCons (xAdd (xSub (xV 2) (xV 1)) xI) aNil))))))))))
def N__law_not : List Str := ["grid", "rows", "row", "cell"]
theorem sc__law_not : FnScope N__law_not ["grid"] (defScope s__law_not) := ⟨rfl, rfl, rfl, by decide +kernel, rfl, by decide +kernel, by decide +kernel⟩
def den__law_not : List D → M D := runF 1 4 (gSeq (gNew 1 [] (lDis aN)) (gSeq (gFor (iSeq (f2 dIx (gVar 0) (fC (.int 3)))) (bName 2) (gApp 1 [] (fL dTuple (aC (fNew (compV (eName 3) (iSeq (gVar 2)) tYes (fNot (gVar 3)))) aN)))) (gRet (fTup (aC (fC (.str "table")) (aC (f2 dIx (gVar 0) (fC (.int 1))) (aC (f2 dIx (gVar 0) (fC (.int 2))) (aC (fL dTuple (aC (gVar 1) aN)) aN))))))))
theorem ok__law_not {f : Addr} {fd : FuncData} (F : FunD K "_law_not" "_law_not" (defArgs s__law_not) (defBody s__law_not) (defScope s__law_not) [] [] f fd) (gf : mg "_law_not" = some (.ref f)) (n_tuple : mg "tuple" = none) :
    Cal P w K mg base 1 "_law_not" (defArgs s__law_not) (defBody s__law_not) (defScope s__law_not) ["grid"] den__law_not := by
  refine ⟨f, fd, gf, F, F.bindsN fun _ _ _ _ _ _ us hl => match us, hl with | [_], _ => rfl, fn_den (N := N__law_not) F sc__law_not fun cdv A outer s H E hr => ?_⟩
  have hN : N__law_not.Nodup := sc__law_not.nd
  have hp : PassesOwn (model P w) _ _ _ := passes_of (X := cxOf (L2N.CX P w) P w K mg base N__law_not "_law_not" (defScope s__law_not) f cdv A outer s H E) rfl
  have tk : Den.Takes (cxOf (L2N.CX P w) P w K mg base N__law_not "_law_not" (defScope s__law_not) f cdv A outer s H E) (wE E) := L2N.takes_of rfl rfl rfl rfl
  exact (ss_cons (sOwn 1 [] hN (lLst aNil)) (ss_cons (sFor 2 hN hp rfl (jSeq (xIx (xV 0) xI)) (ss_one (sApp 1 [] (xTuple n_tuple (aCons (xNew (lLc 3 rfl hN (jSeq (xV 2)) (fun _ _ _ _ _ => cNone) (fun _ _ _ _ _ => (xNot (xV 3))))) aNil))))) (ss_one (sRet (xTup (aCons xS (aCons (xIx (xV 0) xI) (aCons (xIx (xV 0) xI) (aCons (xTuple n_tuple (aCons (xV 1) aNil)) aNil)))))))))
def N__law_unit : List Str := ["side", "k"]
theorem sc__law_unit : FnScope N__law_unit ["side"] (defScope s__law_unit) := ⟨rfl, rfl, rfl, by decide +kernel, rfl, by decide +kernel, by decide +kernel⟩
def den__law_unit : List D → M D := runF 1 2 (gRet (fL den__law_of (aC (fNew (compV (eName 1) (iRan 1 (aC (gVar 0) aN)) tYes (fTup (aC (gVar 1) aN)))) (aC (gVar 0) aN))))
theorem ok__law_unit {f : Addr} {fd : FuncData} (F : FunD K "_law_unit" "_law_unit" (defArgs s__law_unit) (defBody s__law_unit) (defScope s__law_unit) [] [] f fd) (gf : mg "_law_unit" = some (.ref f)) (c__law_of : Cal P w K mg base 1 "_law_of" (defArgs s__law_of) (defBody s__law_of) (defScope s__law_of) ["lots", "wide"] den__law_of) (n_range : mg "range" = none) :
    Cal P w K mg base 2 "_law_unit" (defArgs s__law_unit) (defBody s__law_unit) (defScope s__law_unit) ["side"] den__law_unit := by
  refine ⟨f, fd, gf, F, F.bindsN fun _ _ _ _ _ _ us hl => match us, hl with | [_], _ => rfl, fn_den (N := N__law_unit) F sc__law_unit fun cdv A outer s H E hr => ?_⟩
  have hN : N__law_unit.Nodup := sc__law_unit.nd
  have hp : PassesOwn (model P w) _ _ _ := passes_of (X := cxOf (L2N.CX P w) P w K mg base N__law_unit "_law_unit" (defScope s__law_unit) f cdv A outer s H E) rfl
  have tk : Den.Takes (cxOf (L2N.CX P w) P w K mg base N__law_unit "_law_unit" (defScope s__law_unit) f cdv A outer s H E) (wE E) := L2N.takes_of rfl rfl rfl rfl
  exact (ss_one (sRet (xCall c__law_of tk (hr.mono (by omega)) (aCons (xNew (lLc 1 rfl hN (jR1 n_range (aCons (xV 0) aNil)) (fun _ _ _ _ _ => cNone) (fun _ _ _ _ _ => (xTup (aCons (xV 1) aNil))))) (aCons (xV 0) aNil)))))
def N__law_lost : List Str := ["store", "high", "wide", "hearts"]
theorem sc__law_lost : FnScope N__law_lost ["store", "high", "wide"] (defScope s__law_lost) := ⟨rfl, rfl, rfl, by decide +kernel, rfl, by decide +kernel, by decide +kernel⟩
def den__law_lost : List D → M D := runF 3 4 (gSeq (gNew 3 [] (lDis (aC (fL den__law_of (aC (fNew (lDis (aC (fTup (aC (fC (.int 0)) (aC (fC (.int 1)) aN))) (aC (fTup (aC (fC (.int 0)) (aC (fC (.int 2)) aN))) (aC (fTup (aC (fC (.int 1)) (aC (fC (.int 2)) aN))) aN))))) (aC (fC (.int 3)) aN))) (aC (fL den__law_of (aC (fNew (lDis (aC (fTup (aC (fC (.int 0)) aN)) (aC (fTup (aC (fC (.int 0)) (aC (fC (.int 1)) aN))) (aC (fTup (aC (fC (.int 1)) (aC (fC (.int 2)) aN))) aN))))) (aC (fC (.int 3)) aN))) aN)))) (gSeq (gIf (t2 dGt (gVar 1) (fC (.int 3))) (gApp 3 [] (fL den__law_of (aC (fNew (lDis (aC (fTup (aC (fC (.int 0)) aN)) (aC (fTup (aC (fC (.int 0)) (aC (fC (.int 1)) aN))) (aC (fTup (aC (fC (.int 0)) (aC (fC (.int 2)) aN))) (aC (fTup (aC (fC (.int 1)) (aC (fC (.int 2)) aN))) aN)))))) (aC (fC (.int 3)) aN)))) (fun ρ => pure (.nx ρ))) (gSeq (gIf (t2 dGt (gVar 2) (fC (.int 3))) (gApp 3 [] (fL den__law_turn (aC (fL den__law_of (aC (fNew (lDis (aC (fTup (aC (fC (.int 0)) aN)) (aC (fTup (aC (fC (.int 0)) (aC (fC (.int 1)) aN))) (aC (fTup (aC (fC (.int 0)) (aC (fC (.int 2)) aN))) (aC (fTup (aC (fC (.int 1)) (aC (fC (.int 2)) aN))) aN)))))) (aC (fC (.int 3)) aN))) aN))) (fun ρ => pure (.nx ρ))) (gSeq (gIf (tAnd (t2 dGt (gVar 1) (fC (.int 3))) (t2 dGt (gVar 2) (fC (.int 3)))) (gApp 3 [] (fL den__law_not (aC (fL den__law_unit (aC (fC (.int 4)) aN)) aN))) (fun ρ => pure (.nx ρ))) (gRet (f2 dIx (fL den__law_spread (aC (gVar 0) (aC (fL den__law_pick (aC (gVar 0) (aC (gVar 3) aN))) (aC (gVar 1) (aC (gVar 2) aN))))) (fC (.int 0))))))))
theorem ok__law_lost {f : Addr} {fd : FuncData} (F : FunD K "_law_lost" "_law_lost" (defArgs s__law_lost) (defBody s__law_lost) (defScope s__law_lost) [] [] f fd) (gf : mg "_law_lost" = some (.ref f)) (c__law_not : Cal P w K mg base 1 "_law_not" (defArgs s__law_not) (defBody s__law_not) (defScope s__law_not) ["grid"] den__law_not) (c__law_of : Cal P w K mg base 1 "_law_of" (defArgs s__law_of) (defBody s__law_of) (defScope s__law_of) ["lots", "wide"] den__law_of) (c__law_pick : Cal P w K mg base 3 "_law_pick" (defArgs s__law_pick) (defBody s__law_pick) (defScope s__law_pick) ["store", "things"] den__law_pick) (c__law_spread : Cal P w K mg base 5 "_law_spread" (defArgs s__law_spread) (defBody s__law_spread) (defScope s__law_spread) ["store", "heart", "high", "wide"] den__law_spread) (c__law_turn : Cal P w K mg base 1 "_law_turn" (defArgs s__law_turn) (defBody s__law_turn) (defScope s__law_turn) ["grid"] den__law_turn) (c__law_unit : Cal P w K mg base 2 "_law_unit" (defArgs s__law_unit) (defBody s__law_unit) (defScope s__law_unit) ["side"] den__law_unit) :
    Cal P w K mg base 6 "_law_lost" (defArgs s__law_lost) (defBody s__law_lost) (defScope s__law_lost) ["store", "high", "wide"] den__law_lost := by
  refine ⟨f, fd, gf, F, F.bindsN fun _ _ _ _ _ _ us hl => match us, hl with | [_, _, _], _ => rfl, fn_den (N := N__law_lost) F sc__law_lost fun cdv A outer s H E hr => ?_⟩
  have hN : N__law_lost.Nodup := sc__law_lost.nd
  have hp : PassesOwn (model P w) _ _ _ := passes_of (X := cxOf (L2N.CX P w) P w K mg base N__law_lost "_law_lost" (defScope s__law_lost) f cdv A outer s H E) rfl
  have tk : Den.Takes (cxOf (L2N.CX P w) P w K mg base N__law_lost "_law_lost" (defScope s__law_lost) f cdv A outer s H E) (wE E) := L2N.takes_of rfl rfl rfl rfl
  exact (ss_cons (sOwn 3 [] hN (lLst (aCons (xCall c__law_of tk (hr.mono (by omega)) (aCons (xNew (lLst (aCons (xTup (aCons xI (aCons xI aNil))) (aCons (xTup (aCons xI (aCons xI aNil))) (aCons (xTup (aCons xI (aCons xI aNil))) aNil))))) (aCons xI aNil))) (aCons (xCall c__law_of tk (hr.mono (by omega)) (aCons (xNew (lLst (aCons (xTup (aCons xI aNil)) (aCons (xTup (aCons xI (aCons xI aNil))) (aCons (xTup (aCons xI (aCons xI aNil))) aNil))))) (aCons xI aNil))) aNil)))) (ss_cons (ss_if (cGt (xV 1) xI) (ss_one (sApp 3 [] (xCall c__law_of tk (hr.mono (by omega)) (aCons (xNew (lLst (aCons (xTup (aCons xI aNil)) (aCons (xTup (aCons xI (aCons xI aNil))) (aCons (xTup (aCons xI (aCons xI aNil))) (aCons (xTup (aCons xI (aCons xI aNil))) aNil)))))) (aCons xI aNil))))) ss_nil) (ss_cons (ss_if (cGt (xV 2) xI) (ss_one (sApp 3 [] (xCall c__law_turn tk (hr.mono (by omega)) (aCons (xCall c__law_of tk (hr.mono (by omega)) (aCons (xNew (lLst (aCons (xTup (aCons xI aNil)) (aCons (xTup (aCons xI (aCons xI aNil))) (aCons (xTup (aCons xI (aCons xI aNil))) (aCons (xTup (aCons xI (aCons xI aNil))) aNil)))))) (aCons xI aNil))) aNil)))) ss_nil) (ss_cons (ss_if (cBo (cAnd (cGt (xV 1) xI) (cAnd1 (cGt (xV 2) xI)))) (ss_one (sApp 3 [] (xCall c__law_not tk (hr.mono (by omega)) (aCons (xCall c__law_unit tk (hr.mono (by omega)) (aCons xI aNil)) aNil)))) ss_nil) (ss_one (sRet (xIx (xCall c__law_spread tk (hr.mono (by omega)) (aCons (xV 0) (aCons (xCall c__law_pick tk (hr.mono (by omega)) (aCons (xV 0) (aCons (xV 3) aNil))) (aCons (xV 1) (aCons (xV 2) aNil))))) xI)))))))
def N__law_rect : List Str := ["store", "high", "wide", "many", "classes", "lots", "i", "one", "k"]
theorem sc__law_rect : FnScope N__law_rect ["store", "high", "wide"] (defScope s__law_rect) := ⟨rfl, rfl, rfl, by decide +kernel, rfl, by decide +kernel, by decide +kernel⟩
def den__law_rect : List D → M D := runF 3 9 (gSeq (gAsg 3 [] (f2 dAdd (fC (.int 1)) (fL den__law_take (aC (gVar 0) (aC (fC (.int 6)) aN))))) (gSeq (gAsg 4 [] (fNew (compV (eName 8) (iRan 1 (aC (gVar 2) aN)) tYes (fL den__law_take (aC (gVar 0) (aC (f2 dAdd (gVar 3) (fC (.int 1))) aN)))))) (gSeq (gNew 5 [] (lDis aN)) (gSeq (gFor (iRan 1 (aC (gVar 1) aN)) (bName 6) (gSeq (gAsg 7 [] (fL den__law_take (aC (gVar 0) (aC (f2 dAdd (gVar 3) (fC (.int 1))) aN)))) (gApp 5 [] (fL dTuple (aC (fNew (compV (eName 8) (iRan 1 (aC (gVar 2) aN)) (tAnd (t2 dEq (f2 dIx (gVar 4) (gVar 8)) (gVar 7)) (t2 dGt (gVar 7) (fC (.int 0)))) (gVar 8))) aN))))) (gRet (fL den__law_of (aC (gVar 5) (aC (gVar 2) aN))))))))
theorem ok__law_rect {f : Addr} {fd : FuncData} (F : FunD K "_law_rect" "_law_rect" (defArgs s__law_rect) (defBody s__law_rect) (defScope s__law_rect) [] [] f fd) (gf : mg "_law_rect" = some (.ref f)) (c__law_of : Cal P w K mg base 1 "_law_of" (defArgs s__law_of) (defBody s__law_of) (defScope s__law_of) ["lots", "wide"] den__law_of) (c__law_take : Cal P w K mg base 2 "_law_take" (defArgs s__law_take) (defBody s__law_take) (defScope s__law_take) ["store", "many"] den__law_take) (n_range : mg "range" = none) (n_tuple : mg "tuple" = none) :
    Cal P w K mg base 3 "_law_rect" (defArgs s__law_rect) (defBody s__law_rect) (defScope s__law_rect) ["store", "high", "wide"] den__law_rect := by
  refine ⟨f, fd, gf, F, F.bindsN fun _ _ _ _ _ _ us hl => match us, hl with | [_, _, _], _ => rfl, fn_den (N := N__law_rect) F sc__law_rect fun cdv A outer s H E hr => ?_⟩
  have hN : N__law_rect.Nodup := sc__law_rect.nd
  have hp : PassesOwn (model P w) _ _ _ := passes_of (X := cxOf (L2N.CX P w) P w K mg base N__law_rect "_law_rect" (defScope s__law_rect) f cdv A outer s H E) rfl
  have tk : Den.Takes (cxOf (L2N.CX P w) P w K mg base N__law_rect "_law_rect" (defScope s__law_rect) f cdv A outer s H E) (wE E) := L2N.takes_of rfl rfl rfl rfl
  exact (ss_cons (sLet 3 [] hN (xAdd xI (xCall c__law_take tk (hr.mono (by omega)) (aCons (xV 0) (aCons xI aNil))))) (ss_cons (sLet 4 [] hN (xNew (lLc 8 rfl hN (jR1 n_range (aCons (xV 2) aNil)) (fun _ _ _ _ _ => cNone) (fun _ _ _ _ _ => (xCall c__law_take tk0 (hr.mono (by omega)) (aCons (xV 0) (aCons (xAdd (xV 3) xI) aNil))))))) (ss_cons (sOwn 5 [] hN (lLst aNil)) (ss_cons (sFor 6 hN hp rfl (jR1 n_range (aCons (xV 1) aNil)) (ss_cons (sLet 7 [] hN (xCall c__law_take tk (hr.mono (by omega)) (aCons (xV 0) (aCons (xAdd (xV 3) xI) aNil)))) (ss_one (sApp 5 [] (xTuple n_tuple (aCons (xNew (lLc 8 rfl hN (jR1 n_range (aCons (xV 2) aNil)) (fun _ _ _ _ _ => (cOne (cBo (cAnd (cEq hr (xIx (xV 4) (xV 8)) (xV 7)) (cAnd1 (cGt (xV 7) xI)))))) (fun _ _ _ _ _ => (xV 8)))) aNil)))))) (ss_one (sRet (xCall c__law_of tk (hr.mono (by omega)) (aCons (xV 5) (aCons (xV 2) aNil)))))))))
def N__law_free : List Str := ["store", "high", "wide", "kind", "lots", "i", "k"]
theorem sc__law_free : FnScope N__law_free ["store", "high", "wide"] (defScope s__law_free) := ⟨rfl, rfl, rfl, by decide +kernel, rfl, by decide +kernel, by decide +kernel⟩
def den__law_free : List D → M D := runF 3 7 (gSeq (gAsg 3 [] (fL den__law_take (aC (gVar 0) (aC (fC (.int 4)) aN)))) (gSeq (gNew 4 [] (lDis aN)) (gSeq (gFor (iRan 1 (aC (gVar 1) aN)) (bName 5) (gIf (t2 dEq (gVar 3) (fC (.int 0))) (gApp 4 [] (fL dTuple (aC (fNew (compV (eName 6) (iRan 1 (aC (gVar 2) aN)) (t2 dEq (fL den__law_take (aC (gVar 0) (aC (fC (.int 4)) aN))) (fC (.int 1))) (gVar 6))) aN))) (gIf (t2 dEq (gVar 3) (fC (.int 1))) (gApp 4 [] (fL dTuple (aC (fNew (compV (eName 6) (iRan 1 (aC (gVar 2) aN)) (t2 dNe (fL den__law_take (aC (gVar 0) (aC (fC (.int 4)) aN))) (fC (.int 1))) (gVar 6))) aN))) (gApp 4 [] (fL dTuple (aC (fNew (compV (eName 6) (iRan 1 (aC (gVar 2) aN)) (t2 dEq (fL den__law_take (aC (gVar 0) (aC (fC (.int 2)) aN))) (fC (.int 1))) (gVar 6))) aN)))))) (gRet (fL den__law_of (aC (gVar 4) (aC (gVar 2) aN)))))))
theorem ok__law_free {f : Addr} {fd : FuncData} (F : FunD K "_law_free" "_law_free" (defArgs s__law_free) (defBody s__law_free) (defScope s__law_free) [] [] f fd) (gf : mg "_law_free" = some (.ref f)) (c__law_of : Cal P w K mg base 1 "_law_of" (defArgs s__law_of) (defBody s__law_of) (defScope s__law_of) ["lots", "wide"] den__law_of) (c__law_take : Cal P w K mg base 2 "_law_take" (defArgs s__law_take) (defBody s__law_take) (defScope s__law_take) ["store", "many"] den__law_take) (n_range : mg "range" = none) (n_tuple : mg "tuple" = none) :
    Cal P w K mg base 3 "_law_free" (defArgs s__law_free) (defBody s__law_free) (defScope s__law_free) ["store", "high", "wide"] den__law_free := by
  refine ⟨f, fd, gf, F, F.bindsN fun _ _ _ _ _ _ us hl => match us, hl with | [_, _, _], _ => rfl, fn_den (N := N__law_free) F sc__law_free fun cdv A outer s H E hr => ?_⟩
  have hN : N__law_free.Nodup := sc__law_free.nd
  have hp : PassesOwn (model P w) _ _ _ := passes_of (X := cxOf (L2N.CX P w) P w K mg base N__law_free "_law_free" (defScope s__law_free) f cdv A outer s H E) rfl
  have tk : Den.Takes (cxOf (L2N.CX P w) P w K mg base N__law_free "_law_free" (defScope s__law_free) f cdv A outer s H E) (wE E) := L2N.takes_of rfl rfl rfl rfl
  exact (ss_cons (sLet 3 [] hN (xCall c__law_take tk (hr.mono (by omega)) (aCons (xV 0) (aCons xI aNil)))) (ss_cons (sOwn 4 [] hN (lLst aNil)) (ss_cons (sFor 5 hN hp rfl (jR1 n_range (aCons (xV 1) aNil)) (ss_one (ss_if (cEq hr (xV 3) xI) (ss_one (sApp 4 [] (xTuple n_tuple (aCons (xNew (lLc 6 rfl hN (jR1 n_range (aCons (xV 2) aNil)) (fun _ _ _ _ _ => (cOne (cEq hr (xCall c__law_take tk0 (hr.mono (by omega)) (aCons (xV 0) (aCons xI aNil))) xI))) (fun _ _ _ _ _ => (xV 6)))) aNil)))) (ss_one (ss_if (cEq hr (xV 3) xI) (ss_one (sApp 4 [] (xTuple n_tuple (aCons (xNew (lLc 6 rfl hN (jR1 n_range (aCons (xV 2) aNil)) (fun _ _ _ _ _ => (cOne (cNe hr (xCall c__law_take tk0 (hr.mono (by omega)) (aCons (xV 0) (aCons xI aNil))) xI))) (fun _ _ _ _ _ => (xV 6)))) aNil)))) (ss_one (sApp 4 [] (xTuple n_tuple (aCons (xNew (lLc 6 rfl hN (jR1 n_range (aCons (xV 2) aNil)) (fun _ _ _ _ _ => (cOne (cEq hr (xCall c__law_take tk0 (hr.mono (by omega)) (aCons (xV 0) (aCons xI aNil))) xI))) (fun _ _ _ _ _ => (xV 6)))) aNil))))))))) (ss_one (sRet (xCall c__law_of tk (hr.mono (by omega)) (aCons (xV 4) (aCons (xV 2) aNil))))))))
def N__law_grid : List Str := ["store", "high", "wide", "kind", "shape", "lot", "lots", "i", "k"]
theorem sc__law_grid : FnScope N__law_grid ["store", "high", "wide"] (defScope s__law_grid) := ⟨rfl, rfl, rfl, by decide +kernel, rfl, by decide +kernel, by decide +kernel⟩
def den__law_grid : List D → M D := runF 3 9 (gSeq (gAsg 3 [] (fL den__law_take (aC (gVar 0) (aC (fC (.int 9)) aN)))) (gSeq (gIf (t2 dEq (gVar 3) (fC (.int 0))) (gSeq (gAsg 4 [] (fL den__law_take (aC (gVar 0) (aC (fC (.int 3)) aN)))) (gSeq (gAsg 5 [] (fL dTuple (aC (fNew (compV (eName 8) (iRan 1 (aC (gVar 2) aN)) tYes (gVar 8))) aN))) (gSeq (gAsg 6 [] (fNew (compV (eName 7) (iRan 1 (aC (gVar 1) aN)) tYes (f2 dIx (fNew (lDis (aC (fTup aN) (aC (gVar 5) (aC (fL dTuple (aC (fNew (compV (eName 8) (iRan 1 (aC (gVar 2) aN)) (t2 dEq (gVar 8) (gVar 7)) (gVar 8))) aN)) aN))))) (gVar 4))))) (gRet (fL den__law_of (aC (gVar 6) (aC (gVar 2) aN))))))) (fun ρ => pure (.nx ρ))) (gSeq (gIf (t2 dEq (gVar 3) (fC (.int 1))) (gRet (fL den__law_twin (aC (gVar 0) (aC (gVar 1) (aC (gVar 2) aN))))) (fun ρ => pure (.nx ρ))) (gSeq (gIf (t2 dEq (gVar 3) (fC (.int 2))) (gRet (fL den__law_turn (aC (fL den__law_twin (aC (gVar 0) (aC (gVar 2) (aC (gVar 1) aN)))) aN))) (fun ρ => pure (.nx ρ))) (gSeq (gIf (t2 dEq (gVar 3) (fC (.int 3))) (gRet (fL den__law_way (aC (gVar 0) (aC (fL den__law_between (aC (gVar 0) (aC (fC (.int 0)) (aC (fL dMin (aC (gVar 1) (aC (gVar 2) aN))) aN)))) (aC (gVar 1) (aC (gVar 2) aN)))))) (fun ρ => pure (.nx ρ))) (gSeq (gIf (tAnd (t2 dEq (gVar 3) (fC (.int 4))) (tAnd (t2 dGt (gVar 1) (fC (.int 2))) (t2 dGt (gVar 2) (fC (.int 2))))) (gRet (fL den__law_lost (aC (gVar 0) (aC (gVar 1) (aC (gVar 2) aN))))) (fun ρ => pure (.nx ρ))) (gSeq (gIf (t2 dEq (gVar 3) (fC (.int 5))) (gRet (fL den__law_rect (aC (gVar 0) (aC (gVar 1) (aC (gVar 2) aN))))) (fun ρ => pure (.nx ρ))) (gRet (fL den__law_free (aC (gVar 0) (aC (gVar 1) (aC (gVar 2) aN))))))))))))
theorem ok__law_grid {f : Addr} {fd : FuncData} (F : FunD K "_law_grid" "_law_grid" (defArgs s__law_grid) (defBody s__law_grid) (defScope s__law_grid) [] [] f fd) (gf : mg "_law_grid" = some (.ref f)) (c__law_between : Cal P w K mg base 3 "_law_between" (defArgs s__law_between) (defBody s__law_between) (defScope s__law_between) ["store", "least", "most"] den__law_between) (c__law_free : Cal P w K mg base 3 "_law_free" (defArgs s__law_free) (defBody s__law_free) (defScope s__law_free) ["store", "high", "wide"] den__law_free) (c__law_lost : Cal P w K mg base 6 "_law_lost" (defArgs s__law_lost) (defBody s__law_lost) (defScope s__law_lost) ["store", "high", "wide"] den__law_lost) (c__law_of : Cal P w K mg base 1 "_law_of" (defArgs s__law_of) (defBody s__law_of) (defScope s__law_of) ["lots", "wide"] den__law_of) (c__law_rect : Cal P w K mg base 3 "_law_rect" (defArgs s__law_rect) (defBody s__law_rect) (defScope s__law_rect) ["store", "high", "wide"] den__law_rect) (c__law_take : Cal P w K mg base 2 "_law_take" (defArgs s__law_take) (defBody s__law_take) (defScope s__law_take) ["store", "many"] den__law_take) (c__law_turn : Cal P w K mg base 1 "_law_turn" (defArgs s__law_turn) (defBody s__law_turn) (defScope s__law_turn) ["grid"] den__law_turn) (c__law_twin : Cal P w K mg base 4 "_law_twin" (defArgs s__law_twin) (defBody s__law_twin) (defScope s__law_twin) ["store", "high", "wide"] den__law_twin) (c__law_way : Cal P w K mg base 6 "_law_way" (defArgs s__law_way) (defBody s__law_way) (defScope s__law_way) ["store", "things", "high", "wide"] den__law_way) (n_min : mg "min" = none) (n_range : mg "range" = none) (n_tuple : mg "tuple" = none) :
    Cal P w K mg base 7 "_law_grid" (defArgs s__law_grid) (defBody s__law_grid) (defScope s__law_grid) ["store", "high", "wide"] den__law_grid := by
  refine ⟨f, fd, gf, F, F.bindsN fun _ _ _ _ _ _ us hl => match us, hl with | [_, _, _], _ => rfl, fn_den (N := N__law_grid) F sc__law_grid fun cdv A outer s H E hr => ?_⟩
  have hN : N__law_grid.Nodup := sc__law_grid.nd
  have hp : PassesOwn (model P w) _ _ _ := passes_of (X := cxOf (L2N.CX P w) P w K mg base N__law_grid "_law_grid" (defScope s__law_grid) f cdv A outer s H E) rfl
  have tk : Den.Takes (cxOf (L2N.CX P w) P w K mg base N__law_grid "_law_grid" (defScope s__law_grid) f cdv A outer s H E) (wE E) := L2N.takes_of rfl rfl rfl rfl
  exact (ss_cons (sLet 3 [] hN (xCall c__law_take tk (hr.mono (by omega)) (aCons (xV 0) (aCons xI aNil)))) (ss_cons (ss_if (cEq hr (xV 3) xI) (ss_cons (sLet 4 [] hN (xCall c__law_take tk (hr.mono (by omega)) (aCons (xV 0) (aCons xI aNil)))) (ss_cons (sLet 5 [] hN (xTuple n_tuple (aCons (xNew (lLc 8 rfl hN (jR1 n_range (aCons (xV 2) aNil)) (fun _ _ _ _ _ => cNone) (fun _ _ _ _ _ => (xV 8)))) aNil))) (ss_cons (sLetLc [] (sLc (W := wE E) 6 7 [] rfl hN (jR1 n_range (aCons (xV 1) aNil)) (fun _ _ _ _ _ => cNone) (fun _ _ _ _ _ => (xIx (xNew (lLst (aCons (xTup aNil) (aCons (xV 5) (aCons (xTuple n_tuple (aCons (xNew (lLc 8 rfl hN (jR1 n_range (aCons (xV 2) aNil)) (fun _ _ _ _ _ => (cOne (cEq hr (xV 8) (xV 7)))) (fun _ _ _ _ _ => (xV 8)))) aNil)) aNil))))) (xV 4))))) (ss_one (sRet (xCall c__law_of tk (hr.mono (by omega)) (aCons (xV 6) (aCons (xV 2) aNil)))))))) ss_nil) (ss_cons (ss_if (cEq hr (xV 3) xI) (ss_one (sRet (xCall c__law_twin tk (hr.mono (by omega)) (aCons (xV 0) (aCons (xV 1) (aCons (xV 2) aNil)))))) ss_nil) (ss_cons (ss_if (cEq hr (xV 3) xI) (ss_one (sRet (xCall c__law_turn tk (hr.mono (by omega)) (aCons (xCall c__law_twin tk (hr.mono (by omega)) (aCons (xV 0) (aCons (xV 2) (aCons (xV 1) aNil)))) aNil)))) ss_nil) (ss_cons (ss_if (cEq hr (xV 3) xI) (ss_one (sRet (xCall c__law_way tk (hr.mono (by omega)) (aCons (xV 0) (aCons (xCall c__law_between tk (hr.mono (by omega)) (aCons (xV 0) (aCons xI (aCons (xMin rfl n_min (aCons (xV 1) (aCons (xV 2) aNil))) aNil)))) (aCons (xV 1) (aCons (xV 2) aNil))))))) ss_nil) (ss_cons (ss_if (cBo (cAnd (cEq hr (xV 3) xI) (cAnd (cGt (xV 1) xI) (cAnd1 (cGt (xV 2) xI))))) (ss_one (sRet (xCall c__law_lost tk (hr.mono (by omega)) (aCons (xV 0) (aCons (xV 1) (aCons (xV 2) aNil)))))) ss_nil) (ss_cons (ss_if (cEq hr (xV 3) xI) (ss_one (sRet (xCall c__law_rect tk (hr.mono (by omega)) (aCons (xV 0) (aCons (xV 1) (aCons (xV 2) aNil)))))) ss_nil) (ss_one (sRet (xCall c__law_free tk (hr.mono (by omega)) (aCons (xV 0) (aCons (xV 1) (aCons (xV 2) aNil)))))))))))))
def N__law_side : List Str := ["store", "most", "kind"]
theorem sc__law_side : FnScope N__law_side ["store", "most"] (defScope s__law_side) := ⟨rfl, rfl, rfl, by decide +kernel, rfl, by decide +kernel, by decide +kernel⟩
def den__law_side : List D → M D := runF 2 3 (gSeq (gAsg 2 [] (fL den__law_take (aC (gVar 0) (aC (fC (.int 5)) aN)))) (gSeq (gIf (t2 dEq (gVar 2) (fC (.int 0))) (gRet (gVar 1)) (fun ρ => pure (.nx ρ))) (gSeq (gIf (t2 dEq (gVar 2) (fC (.int 1))) (gRet (fL den__law_take (aC (gVar 0) (aC (f2 dAdd (gVar 1) (fC (.int 1))) aN)))) (fun ρ => pure (.nx ρ))) (gRet (fL den__law_take (aC (gVar 0) (aC (f2 dAdd (fL dMin (aC (gVar 1) (aC (fC (.int 4)) aN))) (fC (.int 1))) aN)))))))
theorem ok__law_side {f : Addr} {fd : FuncData} (F : FunD K "_law_side" "_law_side" (defArgs s__law_side) (defBody s__law_side) (defScope s__law_side) [] [] f fd) (gf : mg "_law_side" = some (.ref f)) (c__law_take : Cal P w K mg base 2 "_law_take" (defArgs s__law_take) (defBody s__law_take) (defScope s__law_take) ["store", "many"] den__law_take) (n_min : mg "min" = none) :
    Cal P w K mg base 3 "_law_side" (defArgs s__law_side) (defBody s__law_side) (defScope s__law_side) ["store", "most"] den__law_side := by
  refine ⟨f, fd, gf, F, F.bindsN fun _ _ _ _ _ _ us hl => match us, hl with | [_, _], _ => rfl, fn_den (N := N__law_side) F sc__law_side fun cdv A outer s H E hr => ?_⟩
  have hN : N__law_side.Nodup := sc__law_side.nd
  have hp : PassesOwn (model P w) _ _ _ := passes_of (X := cxOf (L2N.CX P w) P w K mg base N__law_side "_law_side" (defScope s__law_side) f cdv A outer s H E) rfl
  have tk : Den.Takes (cxOf (L2N.CX P w) P w K mg base N__law_side "_law_side" (defScope s__law_side) f cdv A outer s H E) (wE E) := L2N.takes_of rfl rfl rfl rfl
  exact (ss_cons (sLet 2 [] hN (xCall c__law_take tk (hr.mono (by omega)) (aCons (xV 0) (aCons xI aNil)))) (ss_cons (ss_if (cEq hr (xV 2) xI) (ss_one (sRet (xV 1))) ss_nil) (ss_cons (ss_if (cEq hr (xV 2) xI) (ss_one (sRet (xCall c__law_take tk (hr.mono (by omega)) (aCons (xV 0) (aCons (xAdd (xV 1) xI) aNil))))) ss_nil) (ss_one (sRet (xCall c__law_take tk (hr.mono (by omega)) (aCons (xV 0) (aCons (xAdd (xMin rfl n_min (aCons (xV 1) (aCons xI aNil))) xI) aNil))))))))
def N__is_short : List Str := ["value"]
theorem sc__is_short : FnScope N__is_short ["value"] (defScope s__is_short) := ⟨rfl, rfl, rfl, by decide +kernel, rfl, by decide +kernel, by decide +kernel⟩
def den__is_short : List D → M D := runF 1 1 (gRet (fAnd (gIsi none [.ty "list", .ty "tuple"] (gVar 0)) (f2 dLe (fL dLen (aC (gVar 0) aN)) (fC (.int 6)))))
theorem ok__is_short {f : Addr} {fd : FuncData} (F : FunD K "_is_short" "_is_short" (defArgs s__is_short) (defBody s__is_short) (defScope s__is_short) [] [] f fd) (gf : mg "_is_short" = some (.ref f)) (n_isinstance : mg "isinstance" = none) (n_len : mg "len" = none) (n_list : mg "list" = none) (n_tuple : mg "tuple" = none) (v_SIDE : ∃ t, mg "SIDE" = some (.int 6 t)) :
    Cal P w K mg base 1 "_is_short" (defArgs s__is_short) (defBody s__is_short) (defScope s__is_short) ["value"] den__is_short := by
  refine ⟨f, fd, gf, F, F.bindsN fun _ _ _ _ _ _ us hl => match us, hl with | [_], _ => rfl, fn_den (N := N__is_short) F sc__is_short fun cdv A outer s H E hr => ?_⟩
  have hN : N__is_short.Nodup := sc__is_short.nd
  have hp : PassesOwn (model P w) _ _ _ := passes_of (X := cxOf (L2N.CX P w) P w K mg base N__is_short "_is_short" (defScope s__is_short) f cdv A outer s H E) rfl
  have tk : Den.Takes (cxOf (L2N.CX P w) P w K mg base N__is_short "_is_short" (defScope s__is_short) f cdv A outer s H E) (wE E) := L2N.takes_of rfl rfl rfl rfl
  exact (ss_one (sRet (xAnd (xIsiT "list" "tuple" bt_list bt_tuple (by decide) (by decide) (by decide) (by decide) (by decide) (xV 0) n_isinstance n_list n_tuple) (xOne (xLe (xLen n_len (aCons (xV 0) aNil)) (xGI v_SIDE))))))
def N_is_number : List Str := ["value", "below"]
theorem sc_is_number : FnScope N_is_number ["value", "below"] (defScope s_is_number) := ⟨rfl, rfl, rfl, by decide +kernel, rfl, by decide +kernel, by decide +kernel⟩
def den_is_number : List D → M D := runF 2 2 (gRet (fAnd (gIsi none [.ty "int"] (gVar 0)) (fAnd (fNot (gIsi none [.ty "bool"] (gVar 0))) (fCh dLe dLt (fC (.int 0)) (gVar 0) (gVar 1)))))
theorem ok_is_number {f : Addr} {fd : FuncData} (F : FunD K "is_number" "is_number" (defArgs s_is_number) (defBody s_is_number) (defScope s_is_number) [] [] f fd) (gf : mg "is_number" = some (.ref f)) (n_bool : mg "bool" = none) (n_int : mg "int" = none) (n_isinstance : mg "isinstance" = none) :
    Cal P w K mg base 1 "is_number" (defArgs s_is_number) (defBody s_is_number) (defScope s_is_number) ["value", "below"] den_is_number := by
  refine ⟨f, fd, gf, F, F.bindsN fun _ _ _ _ _ _ us hl => match us, hl with | [_, _], _ => rfl, fn_den (N := N_is_number) F sc_is_number fun cdv A outer s H E hr => ?_⟩
  have hN : N_is_number.Nodup := sc_is_number.nd
  have hp : PassesOwn (model P w) _ _ _ := passes_of (X := cxOf (L2N.CX P w) P w K mg base N_is_number "is_number" (defScope s_is_number) f cdv A outer s H E) rfl
  have tk : Den.Takes (cxOf (L2N.CX P w) P w K mg base N_is_number "is_number" (defScope s_is_number) f cdv A outer s H E) (wE E) := L2N.takes_of rfl rfl rfl rfl
  exact (ss_one (sRet (xAnd (xIsi_int (xV 0) n_isinstance n_int) (xAnd (xNot (xIsi_bool (xV 0) n_isinstance n_bool)) (xOne (xCh dLe dLt op_le vr_le op_lt vr_lt xI (xV 0) (xV 1)))))))
def N__width_of : List Str := ["rows", "width"]
theorem sc__width_of : FnScope N__width_of ["rows", "width"] (defScope s__width_of) := ⟨rfl, rfl, rfl, by decide +kernel, rfl, by decide +kernel, by decide +kernel⟩
def den__width_of : List D → M D := runF 2 2 (gSeq (gIf (tNo (tT (fL den__is_short (aC (gVar 0) aN)))) (gRaise "BadTable" ["row"] (aC (fC .non) aN)) (fun ρ => pure (.nx ρ))) (gSeq (gIf (t2 dIsN (gVar 1) (fC .non)) (gRet (fIf (tAnd (tT (gVar 0)) (tT (fL den__is_short (aC (f2 dIx (gVar 0) (fC (.int 0))) aN)))) (fL dLen (aC (f2 dIx (gVar 0) (fC (.int 0))) aN)) (fC (.int 0)))) (fun ρ => pure (.nx ρ))) (gSeq (gIf (tNo (tT (fL den_is_number (aC (gVar 1) (aC (f2 dAdd (fC (.int 6)) (fC (.int 1))) aN))))) (gRaise "BadTable" ["row"] (aC (fC .non) aN)) (fun ρ => pure (.nx ρ))) (gRet (gVar 1)))))
theorem ok__width_of {f : Addr} {fd : FuncData} (F : FunD K "_width_of" "_width_of" (defArgs s__width_of) (defBody s__width_of) (defScope s__width_of) [] [] f fd) (gf : mg "_width_of" = some (.ref f)) (c__is_short : Cal P w K mg base 1 "_is_short" (defArgs s__is_short) (defBody s__is_short) (defScope s__is_short) ["value"] den__is_short) (c_is_number : Cal P w K mg base 1 "is_number" (defArgs s_is_number) (defBody s_is_number) (defScope s_is_number) ["value", "below"] den_is_number) (x_BadTable : Exn P w K mg base 1 "BadTable" ["row"] ["self", "row"]) (n_len : mg "len" = none) (v_SIDE : ∃ t, mg "SIDE" = some (.int 6 t)) :
    Cal P w K mg base 3 "_width_of" (defArgs s__width_of) (defBody s__width_of) (defScope s__width_of) ["rows", "width"] den__width_of := by
  refine ⟨f, fd, gf, F, F.bindsN fun _ _ _ _ _ _ us hl => match us, hl with | [_, _], _ => rfl, fn_den (N := N__width_of) F sc__width_of fun cdv A outer s H E hr => ?_⟩
  have hN : N__width_of.Nodup := sc__width_of.nd
  have hp : PassesOwn (model P w) _ _ _ := passes_of (X := cxOf (L2N.CX P w) P w K mg base N__width_of "_width_of" (defScope s__width_of) f cdv A outer s H E) rfl
  have tk : Den.Takes (cxOf (L2N.CX P w) P w K mg base N__width_of "_width_of" (defScope s__width_of) f cdv A outer s H E) (wE E) := L2N.takes_of rfl rfl rfl rfl
  exact (ss_cons (ss_if (cNot (cTru (xCall c__is_short tk (hr.mono (by omega)) (aCons (xV 0) aNil)))) (ss_one (sRaise x_BadTable tk rfl (hr.mono (by omega)) (aCons xN aNil))) ss_nil) (ss_cons (ss_if (cIs (xV 1) xN) (ss_one (sRet (xIf (cBo (cAnd (cTru (xV 0)) (cAnd1 (cTru (xCall c__is_short tk (hr.mono (by omega)) (aCons (xIx (xV 0) xI) aNil)))))) (xLen n_len (aCons (xIx (xV 0) xI) aNil)) xI))) ss_nil) (ss_cons (ss_if (cNot (cTru (xCall c_is_number tk (hr.mono (by omega)) (aCons (xV 1) (aCons (xAdd (xGI v_SIDE) xI) aNil))))) (ss_one (sRaise x_BadTable tk rfl (hr.mono (by omega)) (aCons xN aNil))) ss_nil) (ss_one (sRet (xV 1))))))
def N__is_row : List Str := ["value", "width", "cell"]
theorem sc__is_row : FnScope N__is_row ["value", "width"] (defScope s__is_row) := ⟨rfl, rfl, rfl, by decide +kernel, rfl, by decide +kernel, by decide +kernel⟩
def den__is_row : List D → M D := runF 2 3 (gRet (fAnd (fL den__is_short (aC (gVar 0) aN)) (fAnd (f2 dEq (fL dLen (aC (gVar 0) aN)) (gVar 1)) (fL dAll (aC (fNew (compV (eName 2) (iSeq (gVar 0)) tYes (gIsi none [.ty "bool"] (gVar 2)))) aN)))))
theorem ok__is_row {f : Addr} {fd : FuncData} (F : FunD K "_is_row" "_is_row" (defArgs s__is_row) (defBody s__is_row) (defScope s__is_row) [] [] f fd) (gf : mg "_is_row" = some (.ref f)) (c__is_short : Cal P w K mg base 1 "_is_short" (defArgs s__is_short) (defBody s__is_short) (defScope s__is_short) ["value"] den__is_short) (n_all : mg "all" = none) (n_bool : mg "bool" = none) (n_isinstance : mg "isinstance" = none) (n_len : mg "len" = none) :
    Cal P w K mg base 2 "_is_row" (defArgs s__is_row) (defBody s__is_row) (defScope s__is_row) ["value", "width"] den__is_row := by
  refine ⟨f, fd, gf, F, F.bindsN fun _ _ _ _ _ _ us hl => match us, hl with | [_, _], _ => rfl, fn_den (N := N__is_row) F sc__is_row fun cdv A outer s H E hr => ?_⟩
  have hN : N__is_row.Nodup := sc__is_row.nd
  have hp : PassesOwn (model P w) _ _ _ := passes_of (X := cxOf (L2N.CX P w) P w K mg base N__is_row "_is_row" (defScope s__is_row) f cdv A outer s H E) rfl
  have tk : Den.Takes (cxOf (L2N.CX P w) P w K mg base N__is_row "_is_row" (defScope s__is_row) f cdv A outer s H E) (wE E) := L2N.takes_of rfl rfl rfl rfl
  exact (ss_one (sRet (xAnd (xCall c__is_short tk (hr.mono (by omega)) (aCons (xV 0) aNil)) (xAnd (xEq hr (xLen n_len (aCons (xV 0) aNil)) (xV 1)) (xOne (xAll rfl n_all (aCons (xNew (lLc 2 rfl hN (jSeq (xV 0)) (fun _ _ _ _ _ => cNone) (fun _ _ _ _ _ => (xIsi_bool (xV 2) n_isinstance n_bool)))) aNil)))))))
def N_Table_init : List Str := ["self", "rows", "width", "needed", "number", "row"]
theorem sc_Table_init : FnScope N_Table_init ["self", "rows", "width"] (defScope s_Table_init) := ⟨rfl, rfl, rfl, by decide +kernel, rfl, by decide +kernel, by decide +kernel⟩
def deni_Table_init : List D → M (List (Str × D)) := runI "Table" 3 6 (gSeq (gAsg 3 [] (fL den__width_of (aC (gVar 1) (aC (gVar 2) aN)))) (gSeq (gFor (iG dEnum (aC (gVar 1) aN)) (bPair 4 5) (gIf (tNo (tT (fL den__is_row (aC (gVar 5) (aC (gVar 3) aN))))) (gRaise "BadTable" ["row"] (aC (gVar 4) aN)) (fun ρ => pure (.nx ρ)))) (gSeq (gFldSet 0 "Table" "_cells" (fL dTuple (aC (fNew (compV (eName 5) (iSeq (gVar 1)) tYes (fL dTuple (aC (gVar 5) aN)))) aN))) (gFldSet 0 "Table" "_width" (gVar 3)))))
theorem ok_Table_init {f : Addr} {fd : FuncData} (F : FunD K "__init__" "Table.__init__" (defArgs s_Table_init) (defBody s_Table_init) (defScope s_Table_init) [] [("width", .non)] f fd) (c__is_row : Cal P w K mg base 2 "_is_row" (defArgs s__is_row) (defBody s__is_row) (defScope s__is_row) ["value", "width"] den__is_row) (c__width_of : Cal P w K mg base 3 "_width_of" (defArgs s__width_of) (defBody s__width_of) (defScope s__width_of) ["rows", "width"] den__width_of) (fl_Table__cells : Fld K "Table" "_cells") (fl_Table__width : Fld K "Table" "_width") (x_BadTable : Exn P w K mg base 1 "BadTable" ["row"] ["self", "row"]) (n_enumerate : mg "enumerate" = none) (n_tuple : mg "tuple" = none) :
    FnOk P w K mg base (L2N.CX P w) 4 f fd ["self", "rows", "width"] (spIni K "Table" deni_Table_init) := by
  refine fn_ini (N := N_Table_init) F sc_Table_init fun cdv A outer s H E hr => ?_
  have hN : N_Table_init.Nodup := sc_Table_init.nd
  have hp : PassesOwn (model P w) _ _ _ := passes_of (X := cxOf (L2N.CX P w) P w K mg base N_Table_init "Table.__init__" (defScope s_Table_init) f cdv A outer s H E) rfl
  have tk : Den.Takes (cxOf (L2N.CX P w) P w K mg base N_Table_init "Table.__init__" (defScope s_Table_init) f cdv A outer s H E) (wE E) := L2N.takes_of rfl rfl rfl rfl
  exact (ss_cons (sLet 3 [] hN (xCall c__width_of tk (hr.mono (by omega)) (aCons (xV 1) (aCons (xV 2) aNil)))) (ss_cons (sForP 4 5 hN hp rfl (jEn n_enumerate (aCons (xV 1) aNil)) (ss_one (ss_if (cNot (cTru (xCall c__is_row tk (hr.mono (by omega)) (aCons (xV 5) (aCons (xV 3) aNil))))) (ss_one (sRaise x_BadTable tk rfl (hr.mono (by omega)) (aCons (xV 4) aNil))) ss_nil))) (ss_cons (sFldS 0 fl_Table__cells (xTuple n_tuple (aCons (xNew (lLc 5 rfl hN (jSeq (xV 1)) (fun _ _ _ _ _ => cNone) (fun _ _ _ _ _ => (xTuple n_tuple (aCons (xV 5) aNil))))) aNil))) (ss_one (sFldS 0 fl_Table__width (xV 3))))))
def N__law_table : List Str := ["grid", "row", "cell"]
theorem sc__law_table : FnScope N__law_table ["grid"] (defScope s__law_table) := ⟨rfl, rfl, rfl, by decide +kernel, rfl, by decide +kernel, by decide +kernel⟩
def den__law_table : List D → M D := runF 1 3 (gRet (gCallK (fun ds => noErr (do let fs ← deni_Table_init ds; pure (.obj "Table" fs))) (aC (fNew (compV (eName 1) (iSeq (f2 dIx (gVar 0) (fC (.int 3)))) tYes (fNew (compV (eName 2) (iSeq (gVar 1)) tYes (gVar 2))))) aN) (aC (f2 dIx (gVar 0) (fC (.int 2))) aN) 1 1 [0, 1] []))
theorem ok__law_table {f : Addr} {fd : FuncData} (F : FunD K "_law_table" "_law_table" (defArgs s__law_table) (defBody s__law_table) (defScope s__law_table) [] [] f fd) (gf : mg "_law_table" = some (.ref f)) (mk_Table : Mkr P w K mg base 4 "Table" "Table.__init__" (defArgs s_Table_init) (defBody s_Table_init) (defScope s_Table_init) [("width", .non)] ["self", "rows", "width"] deni_Table_init) :
    Cal P w K mg base 6 "_law_table" (defArgs s__law_table) (defBody s__law_table) (defScope s__law_table) ["grid"] den__law_table := by
  refine ⟨f, fd, gf, F, F.bindsN fun _ _ _ _ _ _ us hl => match us, hl with | [_], _ => rfl, fn_den (N := N__law_table) F sc__law_table fun cdv A outer s H E hr => ?_⟩
  have hN : N__law_table.Nodup := sc__law_table.nd
  have hp : PassesOwn (model P w) _ _ _ := passes_of (X := cxOf (L2N.CX P w) P w K mg base N__law_table "_law_table" (defScope s__law_table) f cdv A outer s H E) rfl
  have tk : Den.Takes (cxOf (L2N.CX P w) P w K mg base N__law_table "_law_table" (defScope s__law_table) f cdv A outer s H E) (wE E) := L2N.takes_of rfl rfl rfl rfl
  exact (ss_one (sRet (xMake mk_Table 1 ["width"] [0, 1] [] [] (by decide) (by simp) .nil (by exact fun _ _ _ _ _ _ us mv ws h1 h2 h3 => match us, mv, ws, h1, h2, h3 with | [_, _], [], [_], _, _, _ => rfl) (hr.mono (by omega)) (aCons (xNew (lLc 1 rfl hN (jSeq (xIx (xV 0) xI)) (fun _ _ _ _ _ => cNone) (fun _ _ _ _ _ => (xNew (lLc 2 rfl hN (jSeq (xV 1)) (fun _ _ _ _ _ => cNone) (fun _ _ _ _ _ => (xV 2))))))) aNil) (kCons (xIx (xV 0) xI) kNil))))
def N__law_within : List Str := ["one", "other", "k"]
theorem sc__law_within : FnScope N__law_within ["one", "other"] (defScope s__law_within) := ⟨rfl, rfl, rfl, by decide +kernel, rfl, by decide +kernel, by decide +kernel⟩
def den__law_within : List D → M D := runF 2 3 (gRet (fL dAll (aC (fNew (compV (eName 2) (iSeq (gVar 0)) tYes (f2 dIn (gVar 2) (gVar 1)))) aN)))
theorem ok__law_within {f : Addr} {fd : FuncData} (F : FunD K "_law_within" "_law_within" (defArgs s__law_within) (defBody s__law_within) (defScope s__law_within) [] [] f fd) (gf : mg "_law_within" = some (.ref f)) (n_all : mg "all" = none) :
    Cal P w K mg base 1 "_law_within" (defArgs s__law_within) (defBody s__law_within) (defScope s__law_within) ["one", "other"] den__law_within := by
  refine ⟨f, fd, gf, F, F.bindsN fun _ _ _ _ _ _ us hl => match us, hl with | [_, _], _ => rfl, fn_den (N := N__law_within) F sc__law_within fun cdv A outer s H E hr => ?_⟩
  have hN : N__law_within.Nodup := sc__law_within.nd
  have hp : PassesOwn (model P w) _ _ _ := passes_of (X := cxOf (L2N.CX P w) P w K mg base N__law_within "_law_within" (defScope s__law_within) f cdv A outer s H E) rfl
  have tk : Den.Takes (cxOf (L2N.CX P w) P w K mg base N__law_within "_law_within" (defScope s__law_within) f cdv A outer s H E) (wE E) := L2N.takes_of rfl rfl rfl rfl
  exact (ss_one (sRet (xAll rfl n_all (aCons (xNew (lLc 2 rfl hN (jSeq (xV 0)) (fun _ _ _ _ _ => cNone) (fun _ _ _ _ _ => (xIn (xV 2) (xV 1))))) aNil))))
def N__law_greatest : List Str := ["grid", "lots", "out", "k", "having", "one", "j"]
theorem sc__law_greatest : FnScope N__law_greatest ["grid"] (defScope s__law_greatest) := ⟨rfl, rfl, rfl, by decide +kernel, rfl, by decide +kernel, by decide +kernel⟩
def den__law_greatest : List D → M D := runF 1 7 (gSeq (gAsg 1 [] (fL den__law_lots (aC (gVar 0) aN))) (gSeq (gNew 2 [] (lDis aN)) (gSeq (gFor (iRan 1 (aC (f2 dIx (gVar 0) (fC (.int 2))) aN)) (bName 3) (gSeq (gAsg 4 [] (fNew (compV (eName 5) (iSeq (gVar 1)) (t2 dIn (gVar 3) (gVar 5)) (gVar 5)))) (gApp 2 [] (fL dTuple (aC (fNew (compV (eName 6) (iRan 1 (aC (f2 dIx (gVar 0) (fC (.int 1))) aN)) (tT (fL dAll (aC (fNew (compV (eName 5) (iSeq (gVar 4)) tYes (fL den__law_within (aC (f2 dIx (gVar 1) (gVar 6)) (aC (gVar 5) aN))))) aN))) (gVar 6))) aN))))) (gRet (fL den__law_of (aC (gVar 2) (aC (f2 dIx (gVar 0) (fC (.int 1))) aN)))))))
theorem ok__law_greatest {f : Addr} {fd : FuncData} (F : FunD K "_law_greatest" "_law_greatest" (defArgs s__law_greatest) (defBody s__law_greatest) (defScope s__law_greatest) [] [] f fd) (gf : mg "_law_greatest" = some (.ref f)) (c__law_lots : Cal P w K mg base 1 "_law_lots" (defArgs s__law_lots) (defBody s__law_lots) (defScope s__law_lots) ["grid"] den__law_lots) (c__law_of : Cal P w K mg base 1 "_law_of" (defArgs s__law_of) (defBody s__law_of) (defScope s__law_of) ["lots", "wide"] den__law_of) (c__law_within : Cal P w K mg base 1 "_law_within" (defArgs s__law_within) (defBody s__law_within) (defScope s__law_within) ["one", "other"] den__law_within) (n_all : mg "all" = none) (n_range : mg "range" = none) (n_tuple : mg "tuple" = none) :
    Cal P w K mg base 2 "_law_greatest" (defArgs s__law_greatest) (defBody s__law_greatest) (defScope s__law_greatest) ["grid"] den__law_greatest := by
  refine ⟨f, fd, gf, F, F.bindsN fun _ _ _ _ _ _ us hl => match us, hl with | [_], _ => rfl, fn_den (N := N__law_greatest) F sc__law_greatest fun cdv A outer s H E hr => ?_⟩
  have hN : N__law_greatest.Nodup := sc__law_greatest.nd
  have hp : PassesOwn (model P w) _ _ _ := passes_of (X := cxOf (L2N.CX P w) P w K mg base N__law_greatest "_law_greatest" (defScope s__law_greatest) f cdv A outer s H E) rfl
  have tk : Den.Takes (cxOf (L2N.CX P w) P w K mg base N__law_greatest "_law_greatest" (defScope s__law_greatest) f cdv A outer s H E) (wE E) := L2N.takes_of rfl rfl rfl rfl
  exact (ss_cons (sLet 1 [] hN (xCall c__law_lots tk (hr.mono (by omega)) (aCons (xV 0) aNil))) (ss_cons (sOwn 2 [] hN (lLst aNil)) (ss_cons (sFor 3 hN hp rfl (jR1 n_range (aCons (xIx (xV 0) xI) aNil)) (ss_cons (sLet 4 [] hN (xNew (lLc 5 rfl hN (jSeq (xV 1)) (fun _ _ _ _ _ => (cOne (cIn (xV 3) (xV 5)))) (fun _ _ _ _ _ => (xV 5))))) (ss_one (sApp 2 [] (xTuple n_tuple (aCons (xNew (lLc 6 rfl hN (jR1 n_range (aCons (xIx (xV 0) xI) aNil)) (fun _ _ _ _ _ => (cOne (cTru (xAll rfl n_all (aCons (xNew (lLc 5 rfl hN (jSeq (xV 4)) (fun _ _ _ _ _ => cNone) (fun _ _ _ _ _ => (xCall c__law_within tk0 (hr.mono (by omega)) (aCons (xIx (xV 1) (xV 6)) (aCons (xV 5) aNil)))))) aNil))))) (fun _ _ _ _ _ => (xV 6)))) aNil)))))) (ss_one (sRet (xCall c__law_of tk (hr.mono (by omega)) (aCons (xV 2) (aCons (xIx (xV 0) xI) aNil))))))))
def N__law_less : List Str := ["one", "other", "k"]
theorem sc__law_less : FnScope N__law_less ["one", "other"] (defScope s__law_less) := ⟨rfl, rfl, rfl, by decide +kernel, rfl, by decide +kernel, by decide +kernel⟩
def den__law_less : List D → M D := runF 2 3 (gRet (fL dTuple (aC (fNew (compV (eName 2) (iSeq (gVar 0)) (t2 dNotIn (gVar 2) (gVar 1)) (gVar 2))) aN)))
theorem ok__law_less {f : Addr} {fd : FuncData} (F : FunD K "_law_less" "_law_less" (defArgs s__law_less) (defBody s__law_less) (defScope s__law_less) [] [] f fd) (gf : mg "_law_less" = some (.ref f)) (n_tuple : mg "tuple" = none) :
    Cal P w K mg base 1 "_law_less" (defArgs s__law_less) (defBody s__law_less) (defScope s__law_less) ["one", "other"] den__law_less := by
  refine ⟨f, fd, gf, F, F.bindsN fun _ _ _ _ _ _ us hl => match us, hl with | [_, _], _ => rfl, fn_den (N := N__law_less) F sc__law_less fun cdv A outer s H E hr => ?_⟩
  have hN : N__law_less.Nodup := sc__law_less.nd
  have hp : PassesOwn (model P w) _ _ _ := passes_of (X := cxOf (L2N.CX P w) P w K mg base N__law_less "_law_less" (defScope s__law_less) f cdv A outer s H E) rfl
  have tk : Den.Takes (cxOf (L2N.CX P w) P w K mg base N__law_less "_law_less" (defScope s__law_less) f cdv A outer s H E) (wE E) := L2N.takes_of rfl rfl rfl rfl
  exact (ss_one (sRet (xTuple n_tuple (aCons (xNew (lLc 2 rfl hN (jSeq (xV 0)) (fun _ _ _ _ _ => (cOne (cNotIn (xV 2) (xV 1)))) (fun _ _ _ _ _ => (xV 2)))) aNil))))
def N__law_flip : List Str := ["grid", "i", "k", "lots"]
theorem sc__law_flip : FnScope N__law_flip ["grid", "i", "k"] (defScope s__law_flip) := ⟨rfl, rfl, rfl, by decide +kernel, rfl, by decide +kernel, by decide +kernel⟩
def den__law_flip : List D → M D := runF 3 4 (gSeq (gNew 3 [] (lG denf__law_lots (aC (gVar 0) aN))) (gSeq (gIf (t2 dIn (gVar 2) (f2 dIx (gVar 3) (gVar 1))) (gSet 3 (List.replicate 4 true) (fL den__law_less (aC (f2 dIx (gVar 3) (gVar 1)) (aC (fTup (aC (gVar 2) aN)) aN))) (gVar 1)) (gSet 3 (List.replicate 4 true) (fL den__law_join (aC (fNew (lDis (aC (f2 dIx (gVar 3) (gVar 1)) (aC (fTup (aC (gVar 2) aN)) aN)))) aN)) (gVar 1))) (gRet (fL den__law_of (aC (gVar 3) (aC (f2 dIx (gVar 0) (fC (.int 2))) aN))))))
theorem ok__law_flip {f : Addr} {fd : FuncData} (F : FunD K "_law_flip" "_law_flip" (defArgs s__law_flip) (defBody s__law_flip) (defScope s__law_flip) [] [] f fd) (gf : mg "_law_flip" = some (.ref f)) (c__law_join : Cal P w K mg base 1 "_law_join" (defArgs s__law_join) (defBody s__law_join) (defScope s__law_join) ["lots"] den__law_join) (c__law_less : Cal P w K mg base 1 "_law_less" (defArgs s__law_less) (defBody s__law_less) (defScope s__law_less) ["one", "other"] den__law_less) (c__law_of : Cal P w K mg base 1 "_law_of" (defArgs s__law_of) (defBody s__law_of) (defScope s__law_of) ["lots", "wide"] den__law_of) (cf__law_lots : CalF P w K mg base 1 "_law_lots" (defArgs s__law_lots) (defBody s__law_lots) (defScope s__law_lots) ["grid"] denf__law_lots) :
    Cal P w K mg base 2 "_law_flip" (defArgs s__law_flip) (defBody s__law_flip) (defScope s__law_flip) ["grid", "i", "k"] den__law_flip := by
  refine ⟨f, fd, gf, F, F.bindsN fun _ _ _ _ _ _ us hl => match us, hl with | [_, _, _], _ => rfl, fn_den (N := N__law_flip) F sc__law_flip fun cdv A outer s H E hr => ?_⟩
  have hN : N__law_flip.Nodup := sc__law_flip.nd
  have hp : PassesOwn (model P w) _ _ _ := passes_of (X := cxOf (L2N.CX P w) P w K mg base N__law_flip "_law_flip" (defScope s__law_flip) f cdv A outer s H E) rfl
  have tk : Den.Takes (cxOf (L2N.CX P w) P w K mg base N__law_flip "_law_flip" (defScope s__law_flip) f cdv A outer s H E) (wE E) := L2N.takes_of rfl rfl rfl rfl
  exact (ss_cons (sOwn 3 [] hN (lCall cf__law_lots tk (hr.mono (by omega)) (aCons (xV 0) aNil))) (ss_cons (ss_if (cIn (xV 2) (xIx (xV 3) (xV 1))) (ss_one (sSet 3 (List.replicate 4 true) (xCall c__law_less tk (hr.mono (by omega)) (aCons (xIx (xV 3) (xV 1)) (aCons (xTup (aCons (xV 2) aNil)) aNil))) (xV 1))) (ss_one (sSet 3 (List.replicate 4 true) (xCall c__law_join tk (hr.mono (by omega)) (aCons (xNew (lLst (aCons (xIx (xV 3) (xV 1)) (aCons (xTup (aCons (xV 2) aNil)) aNil)))) aNil)) (xV 1)))) (ss_one (sRet (xCall c__law_of tk (hr.mono (by omega)) (aCons (xV 3) (aCons (xIx (xV 0) xI) aNil)))))))
def N__law_bent_grid : List Str := ["store", "grid", "spot"]
theorem sc__law_bent_grid : FnScope N__law_bent_grid ["store", "grid"] (defScope s__law_bent_grid) := ⟨rfl, rfl, rfl, by decide +kernel, rfl, by decide +kernel, by decide +kernel⟩
def den__law_bent_grid : List D → M D := runF 2 3 (gSeq (gAsg 2 [] (fL den__law_take (aC (gVar 0) (aC (f2 dMul (f2 dIx (gVar 1) (fC (.int 1))) (f2 dIx (gVar 1) (fC (.int 2)))) aN)))) (gSeq (gIf (t2 dEq (f2 dMul (f2 dIx (gVar 1) (fC (.int 1))) (f2 dIx (gVar 1) (fC (.int 2)))) (fC (.int 0))) (gRet (gVar 1)) (fun ρ => pure (.nx ρ))) (gRet (fL den__law_flip (aC (gVar 1) (aC (f2 dDiv (gVar 2) (f2 dIx (gVar 1) (fC (.int 2)))) (aC (f2 dMod (fL dInt (aC (gVar 2) aN)) (f2 dIx (gVar 1) (fC (.int 2)))) aN)))))))
theorem ok__law_bent_grid {f : Addr} {fd : FuncData} (F : FunD K "_law_bent_grid" "_law_bent_grid" (defArgs s__law_bent_grid) (defBody s__law_bent_grid) (defScope s__law_bent_grid) [] [] f fd) (gf : mg "_law_bent_grid" = some (.ref f)) (c__law_flip : Cal P w K mg base 2 "_law_flip" (defArgs s__law_flip) (defBody s__law_flip) (defScope s__law_flip) ["grid", "i", "k"] den__law_flip) (c__law_take : Cal P w K mg base 2 "_law_take" (defArgs s__law_take) (defBody s__law_take) (defScope s__law_take) ["store", "many"] den__law_take) (n_int : mg "int" = none) :
    Cal P w K mg base 3 "_law_bent_grid" (defArgs s__law_bent_grid) (defBody s__law_bent_grid) (defScope s__law_bent_grid) ["store", "grid"] den__law_bent_grid := by
  refine ⟨f, fd, gf, F, F.bindsN fun _ _ _ _ _ _ us hl => match us, hl with | [_, _], _ => rfl, fn_den (N := N__law_bent_grid) F sc__law_bent_grid fun cdv A outer s H E hr => ?_⟩
  have hN : N__law_bent_grid.Nodup := sc__law_bent_grid.nd
  have hp : PassesOwn (model P w) _ _ _ := passes_of (X := cxOf (L2N.CX P w) P w K mg base N__law_bent_grid "_law_bent_grid" (defScope s__law_bent_grid) f cdv A outer s H E) rfl
  have tk : Den.Takes (cxOf (L2N.CX P w) P w K mg base N__law_bent_grid "_law_bent_grid" (defScope s__law_bent_grid) f cdv A outer s H E) (wE E) := L2N.takes_of rfl rfl rfl rfl
  exact (ss_cons (sLet 2 [] hN (xCall c__law_take tk (hr.mono (by omega)) (aCons (xV 0) (aCons (xMul (xIx (xV 1) xI) (xIx (xV 1) xI)) aNil)))) (ss_cons (ss_if (cEq hr (xMul (xIx (xV 1) xI) (xIx (xV 1) xI)) xI) (ss_one (sRet (xV 1))) ss_nil) (ss_one (sRet (xCall c__law_flip tk (hr.mono (by omega)) (aCons (xV 1) (aCons (xDiv (xV 2) (xIx (xV 1) xI)) (aCons (xMod (xInt n_int (aCons (xV 2) aNil)) (xIx (xV 1) xI)) aNil))))))))
def N__law_back : List Str := ["grid", "way"]
theorem sc__law_back : FnScope N__law_back ["grid", "way"] (defScope s__law_back) := ⟨rfl, rfl, rfl, by decide +kernel, rfl, by decide +kernel, by decide +kernel⟩
def den__law_back : List D → M D := runF 2 2 (gRet (fL den__law_behind (aC (fL den__law_behind (aC (gVar 0) (aC (gVar 1) aN))) (aC (gVar 0) aN))))
theorem ok__law_back {f : Addr} {fd : FuncData} (F : FunD K "_law_back" "_law_back" (defArgs s__law_back) (defBody s__law_back) (defScope s__law_back) [] [] f fd) (gf : mg "_law_back" = some (.ref f)) (c__law_behind : Cal P w K mg base 3 "_law_behind" (defArgs s__law_behind) (defBody s__law_behind) (defScope s__law_behind) ["one", "other"] den__law_behind) :
    Cal P w K mg base 4 "_law_back" (defArgs s__law_back) (defBody s__law_back) (defScope s__law_back) ["grid", "way"] den__law_back := by
  refine ⟨f, fd, gf, F, F.bindsN fun _ _ _ _ _ _ us hl => match us, hl with | [_, _], _ => rfl, fn_den (N := N__law_back) F sc__law_back fun cdv A outer s H E hr => ?_⟩
  have hN : N__law_back.Nodup := sc__law_back.nd
  have hp : PassesOwn (model P w) _ _ _ := passes_of (X := cxOf (L2N.CX P w) P w K mg base N__law_back "_law_back" (defScope s__law_back) f cdv A outer s H E) rfl
  have tk : Den.Takes (cxOf (L2N.CX P w) P w K mg base N__law_back "_law_back" (defScope s__law_back) f cdv A outer s H E) (wE E) := L2N.takes_of rfl rfl rfl rfl
  exact (ss_one (sRet (xCall c__law_behind tk (hr.mono (by omega)) (aCons (xCall c__law_behind tk (hr.mono (by omega)) (aCons (xV 0) (aCons (xV 1) aNil))) (aCons (xV 0) aNil)))))
def N__law_cells : List Str := ["grid", "out", "i", "k"]
theorem sc__law_cells : FnScope N__law_cells ["grid"] (defScope s__law_cells) := ⟨rfl, rfl, rfl, by decide +kernel, rfl, by decide +kernel, by decide +kernel⟩
def den__law_cells : List D → M D := runF 1 4 (gSeq (gNew 1 [] (lDis aN)) (gSeq (gFor (iRan 1 (aC (f2 dIx (gVar 0) (fC (.int 1))) aN)) (bName 2) (gFor (iRan 1 (aC (f2 dIx (gVar 0) (fC (.int 2))) aN)) (bName 3) (gIf (tT (f2 dIx (f2 dIx (f2 dIx (gVar 0) (fC (.int 3))) (gVar 2)) (gVar 3))) (gApp 1 [] (fTup (aC (gVar 2) (aC (gVar 3) aN)))) (fun ρ => pure (.nx ρ))))) (gRet (gVar 1))))
theorem ok__law_cells {f : Addr} {fd : FuncData} (F : FunD K "_law_cells" "_law_cells" (defArgs s__law_cells) (defBody s__law_cells) (defScope s__law_cells) [] [] f fd) (gf : mg "_law_cells" = some (.ref f)) (n_range : mg "range" = none) :
    Cal P w K mg base 1 "_law_cells" (defArgs s__law_cells) (defBody s__law_cells) (defScope s__law_cells) ["grid"] den__law_cells := by
  refine ⟨f, fd, gf, F, F.bindsN fun _ _ _ _ _ _ us hl => match us, hl with | [_], _ => rfl, fn_den (N := N__law_cells) F sc__law_cells fun cdv A outer s H E hr => ?_⟩
  have hN : N__law_cells.Nodup := sc__law_cells.nd
  have hp : PassesOwn (model P w) _ _ _ := passes_of (X := cxOf (L2N.CX P w) P w K mg base N__law_cells "_law_cells" (defScope s__law_cells) f cdv A outer s H E) rfl
  have tk : Den.Takes (cxOf (L2N.CX P w) P w K mg base N__law_cells "_law_cells" (defScope s__law_cells) f cdv A outer s H E) (wE E) := L2N.takes_of rfl rfl rfl rfl
  exact (ss_cons (sOwn 1 [] hN (lLst aNil)) (ss_cons (sFor 2 hN hp rfl (jR1 n_range (aCons (xIx (xV 0) xI) aNil)) (ss_one (sFor 3 hN hp rfl (jR1 n_range (aCons (xIx (xV 0) xI) aNil)) (ss_one (ss_if (cTru (xIx (xIx (xIx (xV 0) xI) (xV 2)) (xV 3))) (ss_one (sApp 1 [] (xTup (aCons (xV 2) (aCons (xV 3) aNil))))) ss_nil))))) (ss_one (sRet (xV 1)))))
def N__law_some_way : List Str := ["store", "grid", "way", "due", "share", "cell", "less"]
theorem sc__law_some_way : FnScope N__law_some_way ["store", "grid"] (defScope s__law_some_way) := ⟨rfl, rfl, rfl, by decide +kernel, rfl, by decide +kernel, by decide +kernel⟩
def den__law_some_way : List D → M D := runF 2 7 (gSeq (gAsg 2 [] (fL den__law_greatest (aC (gVar 1) aN))) (gSeq (gAsg 3 [] (fL den__law_back (aC (gVar 1) (aC (gVar 2) aN)))) (gSeq (gAsg 4 [] (f2 dAdd (fC (.int 1)) (fL den__law_take (aC (gVar 0) (aC (fC (.int 3)) aN))))) (gSeq (gFor (iSeq (fL den__law_cells (aC (gVar 2) aN))) (bName 5) (gIf (t2 dEq (fL den__law_take (aC (gVar 0) (aC (gVar 4) aN))) (fC (.int 0))) (gSeq (gAsg 6 [] (fL den__law_flip (aC (gVar 2) (aC (f2 dIx (gVar 5) (fC (.int 0))) (aC (f2 dIx (gVar 5) (fC (.int 1))) aN))))) (gIf (t2 dEq (fL den__law_back (aC (gVar 1) (aC (gVar 6) aN))) (gVar 3)) (gAsg 2 [] (gVar 6)) (fun ρ => pure (.nx ρ)))) (fun ρ => pure (.nx ρ)))) (gRet (gVar 2))))))
theorem ok__law_some_way {f : Addr} {fd : FuncData} (F : FunD K "_law_some_way" "_law_some_way" (defArgs s__law_some_way) (defBody s__law_some_way) (defScope s__law_some_way) [] [] f fd) (gf : mg "_law_some_way" = some (.ref f)) (c__law_back : Cal P w K mg base 4 "_law_back" (defArgs s__law_back) (defBody s__law_back) (defScope s__law_back) ["grid", "way"] den__law_back) (c__law_cells : Cal P w K mg base 1 "_law_cells" (defArgs s__law_cells) (defBody s__law_cells) (defScope s__law_cells) ["grid"] den__law_cells) (c__law_flip : Cal P w K mg base 2 "_law_flip" (defArgs s__law_flip) (defBody s__law_flip) (defScope s__law_flip) ["grid", "i", "k"] den__law_flip) (c__law_greatest : Cal P w K mg base 2 "_law_greatest" (defArgs s__law_greatest) (defBody s__law_greatest) (defScope s__law_greatest) ["grid"] den__law_greatest) (c__law_take : Cal P w K mg base 2 "_law_take" (defArgs s__law_take) (defBody s__law_take) (defScope s__law_take) ["store", "many"] den__law_take) :
    Cal P w K mg base 5 "_law_some_way" (defArgs s__law_some_way) (defBody s__law_some_way) (defScope s__law_some_way) ["store", "grid"] den__law_some_way := by
  refine ⟨f, fd, gf, F, F.bindsN fun _ _ _ _ _ _ us hl => match us, hl with | [_, _], _ => rfl, fn_den (N := N__law_some_way) F sc__law_some_way fun cdv A outer s H E hr => ?_⟩
  have hN : N__law_some_way.Nodup := sc__law_some_way.nd
  have hp : PassesOwn (model P w) _ _ _ := passes_of (X := cxOf (L2N.CX P w) P w K mg base N__law_some_way "_law_some_way" (defScope s__law_some_way) f cdv A outer s H E) rfl
  have tk : Den.Takes (cxOf (L2N.CX P w) P w K mg base N__law_some_way "_law_some_way" (defScope s__law_some_way) f cdv A outer s H E) (wE E) := L2N.takes_of rfl rfl rfl rfl
  exact (ss_cons (sLet 2 [] hN (xCall c__law_greatest tk (hr.mono (by omega)) (aCons (xV 1) aNil))) (ss_cons (sLet 3 [] hN (xCall c__law_back tk (hr.mono (by omega)) (aCons (xV 1) (aCons (xV 2) aNil)))) (ss_cons (sLet 4 [] hN (xAdd xI (xCall c__law_take tk (hr.mono (by omega)) (aCons (xV 0) (aCons xI aNil))))) (ss_cons (sFor 5 hN hp rfl (jSeq (xCall c__law_cells tk (hr.mono (by omega)) (aCons (xV 2) aNil))) (ss_one (ss_if (cEq hr (xCall c__law_take tk (hr.mono (by omega)) (aCons (xV 0) (aCons (xV 4) aNil))) xI) (ss_cons (sLet 6 [] hN (xCall c__law_flip tk (hr.mono (by omega)) (aCons (xV 2) (aCons (xIx (xV 5) xI) (aCons (xIx (xV 5) xI) aNil))))) (ss_one (ss_if (cEq hr (xCall c__law_back tk (hr.mono (by omega)) (aCons (xV 1) (aCons (xV 6) aNil))) (xV 3)) (ss_one (sLet 2 [] hN (xV 6))) ss_nil))) ss_nil))) (ss_one (sRet (xV 2)))))))
def N__law_cross : List Str := ["store", "grid", "kind"]
theorem sc__law_cross : FnScope N__law_cross ["store", "grid"] (defScope s__law_cross) := ⟨rfl, rfl, rfl, by decide +kernel, rfl, by decide +kernel, by decide +kernel⟩
def den__law_cross : List D → M D := runF 2 3 (gSeq (gAsg 2 [] (fL den__law_take (aC (gVar 0) (aC (fC (.int 4)) aN)))) (gSeq (gIf (t2 dEq (gVar 2) (fC (.int 0))) (gRet (fL den__law_greatest (aC (gVar 1) aN))) (fun ρ => pure (.nx ρ))) (gSeq (gIf (t2 dEq (gVar 2) (fC (.int 1))) (gRet (fL den__law_bent_grid (aC (gVar 0) (aC (fL den__law_greatest (aC (gVar 1) aN)) aN)))) (fun ρ => pure (.nx ρ))) (gSeq (gIf (t2 dEq (gVar 2) (fC (.int 2))) (gRet (fL den__law_some_way (aC (gVar 0) (aC (gVar 1) aN)))) (fun ρ => pure (.nx ρ))) (gRet (fL den__law_grid (aC (gVar 0) (aC (f2 dIx (gVar 1) (fC (.int 2))) (aC (f2 dIx (gVar 1) (fC (.int 1))) aN)))))))))
theorem ok__law_cross {f : Addr} {fd : FuncData} (F : FunD K "_law_cross" "_law_cross" (defArgs s__law_cross) (defBody s__law_cross) (defScope s__law_cross) [] [] f fd) (gf : mg "_law_cross" = some (.ref f)) (c__law_bent_grid : Cal P w K mg base 3 "_law_bent_grid" (defArgs s__law_bent_grid) (defBody s__law_bent_grid) (defScope s__law_bent_grid) ["store", "grid"] den__law_bent_grid) (c__law_greatest : Cal P w K mg base 2 "_law_greatest" (defArgs s__law_greatest) (defBody s__law_greatest) (defScope s__law_greatest) ["grid"] den__law_greatest) (c__law_grid : Cal P w K mg base 7 "_law_grid" (defArgs s__law_grid) (defBody s__law_grid) (defScope s__law_grid) ["store", "high", "wide"] den__law_grid) (c__law_some_way : Cal P w K mg base 5 "_law_some_way" (defArgs s__law_some_way) (defBody s__law_some_way) (defScope s__law_some_way) ["store", "grid"] den__law_some_way) (c__law_take : Cal P w K mg base 2 "_law_take" (defArgs s__law_take) (defBody s__law_take) (defScope s__law_take) ["store", "many"] den__law_take) :
    Cal P w K mg base 8 "_law_cross" (defArgs s__law_cross) (defBody s__law_cross) (defScope s__law_cross) ["store", "grid"] den__law_cross := by
  refine ⟨f, fd, gf, F, F.bindsN fun _ _ _ _ _ _ us hl => match us, hl with | [_, _], _ => rfl, fn_den (N := N__law_cross) F sc__law_cross fun cdv A outer s H E hr => ?_⟩
  have hN : N__law_cross.Nodup := sc__law_cross.nd
  have hp : PassesOwn (model P w) _ _ _ := passes_of (X := cxOf (L2N.CX P w) P w K mg base N__law_cross "_law_cross" (defScope s__law_cross) f cdv A outer s H E) rfl
  have tk : Den.Takes (cxOf (L2N.CX P w) P w K mg base N__law_cross "_law_cross" (defScope s__law_cross) f cdv A outer s H E) (wE E) := L2N.takes_of rfl rfl rfl rfl
  exact (ss_cons (sLet 2 [] hN (xCall c__law_take tk (hr.mono (by omega)) (aCons (xV 0) (aCons xI aNil)))) (ss_cons (ss_if (cEq hr (xV 2) xI) (ss_one (sRet (xCall c__law_greatest tk (hr.mono (by omega)) (aCons (xV 1) aNil)))) ss_nil) (ss_cons (ss_if (cEq hr (xV 2) xI) (ss_one (sRet (xCall c__law_bent_grid tk (hr.mono (by omega)) (aCons (xV 0) (aCons (xCall c__law_greatest tk (hr.mono (by omega)) (aCons (xV 1) aNil)) aNil))))) ss_nil) (ss_cons (ss_if (cEq hr (xV 2) xI) (ss_one (sRet (xCall c__law_some_way tk (hr.mono (by omega)) (aCons (xV 0) (aCons (xV 1) aNil))))) ss_nil) (ss_one (sRet (xCall c__law_grid tk (hr.mono (by omega)) (aCons (xV 0) (aCons (xIx (xV 1) xI) (aCons (xIx (xV 1) xI) aNil))))))))))
def N__law_there : List Str := ["grid", "way", "lots", "out", "cell", "i", "lot"]
theorem sc__law_there : FnScope N__law_there ["grid", "way"] (defScope s__law_there) := ⟨rfl, rfl, rfl, by decide +kernel, rfl, by decide +kernel, by decide +kernel⟩
def den__law_there : List D → M D := runF 2 7 (gSeq (gAsg 2 [] (fL den__law_lots (aC (gVar 0) aN))) (gSeq (gNew 3 [] (compV (eName 6) (iSeq (gVar 2)) tYes (fTup aN))) (gSeq (gFor (iSeq (fL den__law_cells (aC (gVar 1) aN))) (bName 4) (gFor (iRan 1 (aC (fL dLen (aC (gVar 2) aN)) aN)) (bName 5) (gIf (t2 dIn (f2 dIx (gVar 4) (fC (.int 0))) (f2 dIx (gVar 2) (gVar 5))) (gSet 3 (List.replicate 7 true) (fL den__law_join (aC (fNew (lDis (aC (f2 dIx (gVar 3) (gVar 5)) (aC (f2 dIx (gVar 2) (f2 dIx (gVar 4) (fC (.int 1)))) aN)))) aN)) (gVar 5)) (fun ρ => pure (.nx ρ))))) (gRet (fL den__law_of (aC (gVar 3) (aC (f2 dIx (gVar 0) (fC (.int 2))) aN)))))))
theorem ok__law_there {f : Addr} {fd : FuncData} (F : FunD K "_law_there" "_law_there" (defArgs s__law_there) (defBody s__law_there) (defScope s__law_there) [] [] f fd) (gf : mg "_law_there" = some (.ref f)) (c__law_cells : Cal P w K mg base 1 "_law_cells" (defArgs s__law_cells) (defBody s__law_cells) (defScope s__law_cells) ["grid"] den__law_cells) (c__law_join : Cal P w K mg base 1 "_law_join" (defArgs s__law_join) (defBody s__law_join) (defScope s__law_join) ["lots"] den__law_join) (c__law_lots : Cal P w K mg base 1 "_law_lots" (defArgs s__law_lots) (defBody s__law_lots) (defScope s__law_lots) ["grid"] den__law_lots) (c__law_of : Cal P w K mg base 1 "_law_of" (defArgs s__law_of) (defBody s__law_of) (defScope s__law_of) ["lots", "wide"] den__law_of) (n_len : mg "len" = none) (n_range : mg "range" = none) :
    Cal P w K mg base 2 "_law_there" (defArgs s__law_there) (defBody s__law_there) (defScope s__law_there) ["grid", "way"] den__law_there := by
  refine ⟨f, fd, gf, F, F.bindsN fun _ _ _ _ _ _ us hl => match us, hl with | [_, _], _ => rfl, fn_den (N := N__law_there) F sc__law_there fun cdv A outer s H E hr => ?_⟩
  have hN : N__law_there.Nodup := sc__law_there.nd
  have hp : PassesOwn (model P w) _ _ _ := passes_of (X := cxOf (L2N.CX P w) P w K mg base N__law_there "_law_there" (defScope s__law_there) f cdv A outer s H E) rfl
  have tk : Den.Takes (cxOf (L2N.CX P w) P w K mg base N__law_there "_law_there" (defScope s__law_there) f cdv A outer s H E) (wE E) := L2N.takes_of rfl rfl rfl rfl
  exact (ss_cons (sLet 2 [] hN (xCall c__law_lots tk (hr.mono (by omega)) (aCons (xV 0) aNil))) (ss_cons (sOwnLc [] (sLc (W := wE E) 3 6 [] rfl hN (jSeq (xV 2)) (fun _ _ _ _ _ => cNone) (fun _ _ _ _ _ => (xTup aNil)))) (ss_cons (sFor 4 hN hp rfl (jSeq (xCall c__law_cells tk (hr.mono (by omega)) (aCons (xV 1) aNil))) (ss_one (sFor 5 hN hp rfl (jR1 n_range (aCons (xLen n_len (aCons (xV 2) aNil)) aNil)) (ss_one (ss_if (cIn (xIx (xV 4) xI) (xIx (xV 2) (xV 5))) (ss_one (sSet 3 (List.replicate 7 true) (xCall c__law_join tk (hr.mono (by omega)) (aCons (xNew (lLst (aCons (xIx (xV 3) (xV 5)) (aCons (xIx (xV 2) (xIx (xV 4) xI)) aNil)))) aNil)) (xV 5))) ss_nil))))) (ss_one (sRet (xCall c__law_of tk (hr.mono (by omega)) (aCons (xV 3) (aCons (xIx (xV 0) xI) aNil))))))))
def N_Table_width : List Str := ["self"]
theorem sc_Table_width : FnScope N_Table_width ["self"] (defScope s_Table_width) := ⟨rfl, rfl, rfl, by decide +kernel, rfl, by decide +kernel, by decide +kernel⟩
def den_Table_width : List D → M D := runF 1 1 (gRet (gFld "Table" "_width" (gVar 0)))
theorem ok_Table_width {f : Addr} {fd : FuncData} (F : FunD K "width" "Table.width" (defArgs s_Table_width) (defBody s_Table_width) (defScope s_Table_width) [] [] f fd) (fl_Table__width : Fld K "Table" "_width") :
    Binds K fd ["self"] [] ∧ FnOk P w K mg base (L2N.CX P w) 1 f fd ["self"] (spOf K den_Table_width) := by
  refine ⟨F.bindsN fun _ _ _ _ _ _ us hl => match us, hl with | [_], _ => rfl, fn_den (N := N_Table_width) F sc_Table_width fun cdv A outer s H E hr => ?_⟩
  have hN : N_Table_width.Nodup := sc_Table_width.nd
  have hp : PassesOwn (model P w) _ _ _ := passes_of (X := cxOf (L2N.CX P w) P w K mg base N_Table_width "Table.width" (defScope s_Table_width) f cdv A outer s H E) rfl
  have tk : Den.Takes (cxOf (L2N.CX P w) P w K mg base N_Table_width "Table.width" (defScope s_Table_width) f cdv A outer s H E) (wE E) := L2N.takes_of rfl rfl rfl rfl
  exact (ss_one (sRet (xFld fl_Table__width (xV 0))))
def N_Table_height : List Str := ["self"]
theorem sc_Table_height : FnScope N_Table_height ["self"] (defScope s_Table_height) := ⟨rfl, rfl, rfl, by decide +kernel, rfl, by decide +kernel, by decide +kernel⟩
def den_Table_height : List D → M D := runF 1 1 (gRet (fL dLen (aC (gFld "Table" "_cells" (gVar 0)) aN)))
theorem ok_Table_height {f : Addr} {fd : FuncData} (F : FunD K "height" "Table.height" (defArgs s_Table_height) (defBody s_Table_height) (defScope s_Table_height) [] [] f fd) (fl_Table__cells : Fld K "Table" "_cells") (n_len : mg "len" = none) :
    Binds K fd ["self"] [] ∧ FnOk P w K mg base (L2N.CX P w) 1 f fd ["self"] (spOf K den_Table_height) := by
  refine ⟨F.bindsN fun _ _ _ _ _ _ us hl => match us, hl with | [_], _ => rfl, fn_den (N := N_Table_height) F sc_Table_height fun cdv A outer s H E hr => ?_⟩
  have hN : N_Table_height.Nodup := sc_Table_height.nd
  have hp : PassesOwn (model P w) _ _ _ := passes_of (X := cxOf (L2N.CX P w) P w K mg base N_Table_height "Table.height" (defScope s_Table_height) f cdv A outer s H E) rfl
  have tk : Den.Takes (cxOf (L2N.CX P w) P w K mg base N_Table_height "Table.height" (defScope s_Table_height) f cdv A outer s H E) (wE E) := L2N.takes_of rfl rfl rfl rfl
  exact (ss_one (sRet (xLen n_len (aCons (xFld fl_Table__cells (xV 0)) aNil))))
def N_Table_size : List Str := ["self"]
theorem sc_Table_size : FnScope N_Table_size ["self"] (defScope s_Table_size) := ⟨rfl, rfl, rfl, by decide +kernel, rfl, by decide +kernel, by decide +kernel⟩
def den_Table_size : List D → M D := runF 1 1 (gRet (fTup (aC (gProp "Table" den_Table_height (gVar 0)) (aC (gProp "Table" den_Table_width (gVar 0)) aN))))
theorem ok_Table_size {f : Addr} {fd : FuncData} (F : FunD K "size" "Table.size" (defArgs s_Table_size) (defBody s_Table_size) (defScope s_Table_size) [] [] f fd) (p_Table_height : Prp P w K mg base 1 "Table" "height" ["self"] den_Table_height) (p_Table_width : Prp P w K mg base 1 "Table" "width" ["self"] den_Table_width) :
    Binds K fd ["self"] [] ∧ FnOk P w K mg base (L2N.CX P w) 3 f fd ["self"] (spOf K den_Table_size) := by
  refine ⟨F.bindsN fun _ _ _ _ _ _ us hl => match us, hl with | [_], _ => rfl, fn_den (N := N_Table_size) F sc_Table_size fun cdv A outer s H E hr => ?_⟩
  have hN : N_Table_size.Nodup := sc_Table_size.nd
  have hp : PassesOwn (model P w) _ _ _ := passes_of (X := cxOf (L2N.CX P w) P w K mg base N_Table_size "Table.size" (defScope s_Table_size) f cdv A outer s H E) rfl
  have tk : Den.Takes (cxOf (L2N.CX P w) P w K mg base N_Table_size "Table.size" (defScope s_Table_size) f cdv A outer s H E) (wE E) := L2N.takes_of rfl rfl rfl rfl
  exact (ss_one (sRet (xTup (aCons (xProp p_Table_height (hr.mono (by omega)) (xV 0)) (aCons (xProp p_Table_width (hr.mono (by omega)) (xV 0)) aNil)))))
def N_is_crosswise : List Str := ["table", "other"]
theorem sc_is_crosswise : FnScope N_is_crosswise ["table", "other"] (defScope s_is_crosswise) := ⟨rfl, rfl, rfl, by decide +kernel, rfl, by decide +kernel, by decide +kernel⟩
def den_is_crosswise : List D → M D := runF 2 2 (gRet (f2 dEq (gProp "Table" den_Table_size (gVar 1)) (fTup (aC (gProp "Table" den_Table_width (gVar 0)) (aC (gProp "Table" den_Table_height (gVar 0)) aN)))))
theorem ok_is_crosswise {f : Addr} {fd : FuncData} (F : FunD K "is_crosswise" "is_crosswise" (defArgs s_is_crosswise) (defBody s_is_crosswise) (defScope s_is_crosswise) [] [] f fd) (gf : mg "is_crosswise" = some (.ref f)) (p_Table_height : Prp P w K mg base 1 "Table" "height" ["self"] den_Table_height) (p_Table_size : Prp P w K mg base 3 "Table" "size" ["self"] den_Table_size) (p_Table_width : Prp P w K mg base 1 "Table" "width" ["self"] den_Table_width) :
    Cal P w K mg base 5 "is_crosswise" (defArgs s_is_crosswise) (defBody s_is_crosswise) (defScope s_is_crosswise) ["table", "other"] den_is_crosswise := by
  refine ⟨f, fd, gf, F, F.bindsN fun _ _ _ _ _ _ us hl => match us, hl with | [_, _], _ => rfl, fn_den (N := N_is_crosswise) F sc_is_crosswise fun cdv A outer s H E hr => ?_⟩
  have hN : N_is_crosswise.Nodup := sc_is_crosswise.nd
  have hp : PassesOwn (model P w) _ _ _ := passes_of (X := cxOf (L2N.CX P w) P w K mg base N_is_crosswise "is_crosswise" (defScope s_is_crosswise) f cdv A outer s H E) rfl
  have tk : Den.Takes (cxOf (L2N.CX P w) P w K mg base N_is_crosswise "is_crosswise" (defScope s_is_crosswise) f cdv A outer s H E) (wE E) := L2N.takes_of rfl rfl rfl rfl
  exact (ss_one (sRet (xEq hr (xProp p_Table_size (hr.mono (by omega)) (xV 1)) (xTup (aCons (xProp p_Table_width (hr.mono (by omega)) (xV 0)) (aCons (xProp p_Table_height (hr.mono (by omega)) (xV 0)) aNil))))))
def N_check_crosswise : List Str := ["table", "other"]
theorem sc_check_crosswise : FnScope N_check_crosswise ["table", "other"] (defScope s_check_crosswise) := ⟨rfl, rfl, rfl, by decide +kernel, rfl, by decide +kernel, by decide +kernel⟩
def den_check_crosswise : List D → M D := runF 2 2 (gIf (tNo (tT (fL den_is_crosswise (aC (gVar 0) (aC (gVar 1) aN))))) (gRaise "UnlikeSizes" ["first", "second"] (aC (gProp "Table" den_Table_size (gVar 0)) (aC (gProp "Table" den_Table_size (gVar 1)) aN))) (fun ρ => pure (.nx ρ)))
theorem ok_check_crosswise {f : Addr} {fd : FuncData} (F : FunD K "check_crosswise" "check_crosswise" (defArgs s_check_crosswise) (defBody s_check_crosswise) (defScope s_check_crosswise) [] [] f fd) (gf : mg "check_crosswise" = some (.ref f)) (c_is_crosswise : Cal P w K mg base 5 "is_crosswise" (defArgs s_is_crosswise) (defBody s_is_crosswise) (defScope s_is_crosswise) ["table", "other"] den_is_crosswise) (p_Table_size : Prp P w K mg base 3 "Table" "size" ["self"] den_Table_size) (x_UnlikeSizes : Exn P w K mg base 1 "UnlikeSizes" ["first", "second"] ["self", "first", "second"]) :
    Cal P w K mg base 6 "check_crosswise" (defArgs s_check_crosswise) (defBody s_check_crosswise) (defScope s_check_crosswise) ["table", "other"] den_check_crosswise := by
  refine ⟨f, fd, gf, F, F.bindsN fun _ _ _ _ _ _ us hl => match us, hl with | [_, _], _ => rfl, fn_den (N := N_check_crosswise) F sc_check_crosswise fun cdv A outer s H E hr => ?_⟩
  have hN : N_check_crosswise.Nodup := sc_check_crosswise.nd
  have hp : PassesOwn (model P w) _ _ _ := passes_of (X := cxOf (L2N.CX P w) P w K mg base N_check_crosswise "check_crosswise" (defScope s_check_crosswise) f cdv A outer s H E) rfl
  have tk : Den.Takes (cxOf (L2N.CX P w) P w K mg base N_check_crosswise "check_crosswise" (defScope s_check_crosswise) f cdv A outer s H E) (wE E) := L2N.takes_of rfl rfl rfl rfl
  exact (ss_one (ss_if (cNot (cTru (xCall c_is_crosswise tk (hr.mono (by omega)) (aCons (xV 0) (aCons (xV 1) aNil))))) (ss_one (sRaise x_UnlikeSizes tk rfl (hr.mono (by omega)) (aCons (xProp p_Table_size (hr.mono (by omega)) (xV 0)) (aCons (xProp p_Table_size (hr.mono (by omega)) (xV 1)) aNil)))) ss_nil))
def N_check_behind : List Str := ["first", "second"]
theorem sc_check_behind : FnScope N_check_behind ["first", "second"] (defScope s_check_behind) := ⟨rfl, rfl, rfl, by decide +kernel, rfl, by decide +kernel, by decide +kernel⟩
def den_check_behind : List D → M D := runF 2 2 (gIf (t2 dNe (gProp "Table" den_Table_width (gVar 0)) (gProp "Table" den_Table_height (gVar 1))) (gRaise "UnlikeSizes" ["first", "second"] (aC (gProp "Table" den_Table_size (gVar 0)) (aC (gProp "Table" den_Table_size (gVar 1)) aN))) (fun ρ => pure (.nx ρ)))
theorem ok_check_behind {f : Addr} {fd : FuncData} (F : FunD K "check_behind" "check_behind" (defArgs s_check_behind) (defBody s_check_behind) (defScope s_check_behind) [] [] f fd) (gf : mg "check_behind" = some (.ref f)) (p_Table_height : Prp P w K mg base 1 "Table" "height" ["self"] den_Table_height) (p_Table_size : Prp P w K mg base 3 "Table" "size" ["self"] den_Table_size) (p_Table_width : Prp P w K mg base 1 "Table" "width" ["self"] den_Table_width) (x_UnlikeSizes : Exn P w K mg base 1 "UnlikeSizes" ["first", "second"] ["self", "first", "second"]) :
    Cal P w K mg base 5 "check_behind" (defArgs s_check_behind) (defBody s_check_behind) (defScope s_check_behind) ["first", "second"] den_check_behind := by
  refine ⟨f, fd, gf, F, F.bindsN fun _ _ _ _ _ _ us hl => match us, hl with | [_, _], _ => rfl, fn_den (N := N_check_behind) F sc_check_behind fun cdv A outer s H E hr => ?_⟩
  have hN : N_check_behind.Nodup := sc_check_behind.nd
  have hp : PassesOwn (model P w) _ _ _ := passes_of (X := cxOf (L2N.CX P w) P w K mg base N_check_behind "check_behind" (defScope s_check_behind) f cdv A outer s H E) rfl
  have tk : Den.Takes (cxOf (L2N.CX P w) P w K mg base N_check_behind "check_behind" (defScope s_check_behind) f cdv A outer s H E) (wE E) := L2N.takes_of rfl rfl rfl rfl
  exact (ss_one (ss_if (cNe hr (xProp p_Table_width (hr.mono (by omega)) (xV 0)) (xProp p_Table_height (hr.mono (by omega)) (xV 1))) (ss_one (sRaise x_UnlikeSizes tk rfl (hr.mono (by omega)) (aCons (xProp p_Table_size (hr.mono (by omega)) (xV 0)) (aCons (xProp p_Table_size (hr.mono (by omega)) (xV 1)) aNil)))) ss_nil))
def N_Table_columns : List Str := ["self", "number", "row"]
theorem sc_Table_columns : FnScope N_Table_columns ["self"] (defScope s_Table_columns) := ⟨rfl, rfl, rfl, by decide +kernel, rfl, by decide +kernel, by decide +kernel⟩
def den_Table_columns : List D → M D := runF 1 3 (gRet (fNew (compV (eName 1) (iRan 1 (aC (gFld "Table" "_width" (gVar 0)) aN)) tYes (fNew (compV (eName 2) (iSeq (gFld "Table" "_cells" (gVar 0))) tYes (f2 dIx (gVar 2) (gVar 1)))))))
theorem ok_Table_columns {f : Addr} {fd : FuncData} (F : FunD K "columns" "Table.columns" (defArgs s_Table_columns) (defBody s_Table_columns) (defScope s_Table_columns) [] [] f fd) (fl_Table__cells : Fld K "Table" "_cells") (fl_Table__width : Fld K "Table" "_width") (n_range : mg "range" = none) :
    Binds K fd ["self"] [] ∧ FnOk P w K mg base (L2N.CX P w) 1 f fd ["self"] (spOf K den_Table_columns) := by
  refine ⟨F.bindsN fun _ _ _ _ _ _ us hl => match us, hl with | [_], _ => rfl, fn_den (N := N_Table_columns) F sc_Table_columns fun cdv A outer s H E hr => ?_⟩
  have hN : N_Table_columns.Nodup := sc_Table_columns.nd
  have hp : PassesOwn (model P w) _ _ _ := passes_of (X := cxOf (L2N.CX P w) P w K mg base N_Table_columns "Table.columns" (defScope s_Table_columns) f cdv A outer s H E) rfl
  have tk : Den.Takes (cxOf (L2N.CX P w) P w K mg base N_Table_columns "Table.columns" (defScope s_Table_columns) f cdv A outer s H E) (wE E) := L2N.takes_of rfl rfl rfl rfl
  exact (ss_one (sRet (xNew (lLc 1 rfl hN (jR1 n_range (aCons (xFld fl_Table__width (xV 0)) aNil)) (fun _ _ _ _ _ => cNone) (fun _ _ _ _ _ => (xNew (lLc 2 rfl hN (jSeq (xFld fl_Table__cells (xV 0))) (fun _ _ _ _ _ => cNone) (fun _ _ _ _ _ => (xIx (xV 2) (xV 1))))))))))
def N__have_middle : List Str := ["row", "column", "left", "right"]
theorem sc__have_middle : FnScope N__have_middle ["row", "column"] (defScope s__have_middle) := ⟨rfl, rfl, rfl, by decide +kernel, rfl, by decide +kernel, by decide +kernel⟩
def den__have_middle : List D → M D := runF 2 4 (gRet (fL dAny (aC (fNew (compV (ePair 2 3) (iG dZipM (aC (gVar 0) (aC (gVar 1) aN))) tYes (fAnd (gVar 2) (gVar 3)))) aN)))
theorem ok__have_middle {f : Addr} {fd : FuncData} (F : FunD K "_have_middle" "_have_middle" (defArgs s__have_middle) (defBody s__have_middle) (defScope s__have_middle) [] [] f fd) (gf : mg "_have_middle" = some (.ref f)) (n_any : mg "any" = none) (n_zip : mg "zip" = none) :
    Cal P w K mg base 1 "_have_middle" (defArgs s__have_middle) (defBody s__have_middle) (defScope s__have_middle) ["row", "column"] den__have_middle := by
  refine ⟨f, fd, gf, F, F.bindsN fun _ _ _ _ _ _ us hl => match us, hl with | [_, _], _ => rfl, fn_den (N := N__have_middle) F sc__have_middle fun cdv A outer s H E hr => ?_⟩
  have hN : N__have_middle.Nodup := sc__have_middle.nd
  have hp : PassesOwn (model P w) _ _ _ := passes_of (X := cxOf (L2N.CX P w) P w K mg base N__have_middle "_have_middle" (defScope s__have_middle) f cdv A outer s H E) rfl
  have tk : Den.Takes (cxOf (L2N.CX P w) P w K mg base N__have_middle "_have_middle" (defScope s__have_middle) f cdv A outer s H E) (wE E) := L2N.takes_of rfl rfl rfl rfl
  exact (ss_one (sRet (xAny rfl n_any (aCons (xNew (lLcP 2 3 (by decide) rfl hN (jZipM n_zip (aCons (xV 0) (aCons (xV 1) aNil))) (fun _ _ _ _ _ => cNone) (fun _ _ _ _ _ => (xAnd (xV 2) (xOne (xV 3)))))) aNil))))
def N_Table_mul : List Str := ["self", "other", "columns", "rows", "row", "column"]
theorem sc_Table_mul : FnScope N_Table_mul ["self", "other"] (defScope s_Table_mul) := ⟨rfl, rfl, rfl, by decide +kernel, rfl, by decide +kernel, by decide +kernel⟩
def den_Table_mul : List D → M D := runF 2 6 (gSeq (gExp (fL den_check_behind (aC (gVar 0) (aC (gVar 1) aN)))) (gSeq (gAsg 2 [] (gProp "Table" den_Table_columns (gVar 1))) (gSeq (gAsg 3 [] (fNew (compV (eName 4) (iSeq (gFld "Table" "_cells" (gVar 0))) tYes (fNew (compV (eName 5) (iSeq (gVar 2)) tYes (fL den__have_middle (aC (gVar 4) (aC (gVar 5) aN)))))))) (gRet (gCallK (fun ds => noErr (do let fs ← deni_Table_init ds; pure (.obj "Table" fs))) (aC (gVar 3) aN) (aC (gProp "Table" den_Table_width (gVar 1)) aN) 1 1 [0, 1] [])))))
theorem ok_Table_mul {f : Addr} {fd : FuncData} (F : FunD K "__mul__" "Table.__mul__" (defArgs s_Table_mul) (defBody s_Table_mul) (defScope s_Table_mul) [] [] f fd) (c__have_middle : Cal P w K mg base 1 "_have_middle" (defArgs s__have_middle) (defBody s__have_middle) (defScope s__have_middle) ["row", "column"] den__have_middle) (c_check_behind : Cal P w K mg base 5 "check_behind" (defArgs s_check_behind) (defBody s_check_behind) (defScope s_check_behind) ["first", "second"] den_check_behind) (p_Table_columns : Prp P w K mg base 1 "Table" "columns" ["self"] den_Table_columns) (p_Table_width : Prp P w K mg base 1 "Table" "width" ["self"] den_Table_width) (mk_Table : Mkr P w K mg base 4 "Table" "Table.__init__" (defArgs s_Table_init) (defBody s_Table_init) (defScope s_Table_init) [("width", .non)] ["self", "rows", "width"] deni_Table_init) (fl_Table__cells : Fld K "Table" "_cells") :
    Binds K fd ["self", "other"] [] ∧ FnOk P w K mg base (L2N.CX P w) 6 f fd ["self", "other"] (spOf K den_Table_mul) := by
  refine ⟨F.bindsN fun _ _ _ _ _ _ us hl => match us, hl with | [_, _], _ => rfl, fn_den (N := N_Table_mul) F sc_Table_mul fun cdv A outer s H E hr => ?_⟩
  have hN : N_Table_mul.Nodup := sc_Table_mul.nd
  have hp : PassesOwn (model P w) _ _ _ := passes_of (X := cxOf (L2N.CX P w) P w K mg base N_Table_mul "Table.__mul__" (defScope s_Table_mul) f cdv A outer s H E) rfl
  have tk : Den.Takes (cxOf (L2N.CX P w) P w K mg base N_Table_mul "Table.__mul__" (defScope s_Table_mul) f cdv A outer s H E) (wE E) := L2N.takes_of rfl rfl rfl rfl
  exact (ss_cons (sExp (xCall c_check_behind tk (hr.mono (by omega)) (aCons (xV 0) (aCons (xV 1) aNil)))) (ss_cons (sLet 2 [] hN (xProp p_Table_columns (hr.mono (by omega)) (xV 1))) (ss_cons (sLetLc [] (sLc (W := wE E) 3 4 [] rfl hN (jSeq (xFld fl_Table__cells (xV 0))) (fun _ _ _ _ _ => cNone) (fun _ _ _ _ _ => (xNew (lLc 5 rfl hN (jSeq (xV 2)) (fun _ _ _ _ _ => cNone) (fun _ _ _ _ _ => (xCall c__have_middle tk0 (hr.mono (by omega)) (aCons (xV 4) (aCons (xV 5) aNil))))))))) (ss_one (sRet (xMake mk_Table 1 ["width"] [0, 1] [] [] (by decide) (by simp) .nil (by exact fun _ _ _ _ _ _ us mv ws h1 h2 h3 => match us, mv, ws, h1, h2, h3 with | [_, _], [], [_], _, _, _ => rfl) (hr.mono (by omega)) (aCons (xV 3) aNil) (kCons (xProp p_Table_width (hr.mono (by omega)) (xV 1)) kNil)))))))
def N_back_and_forth : List Str := ["table", "other"]
theorem sc_back_and_forth : FnScope N_back_and_forth ["table", "other"] (defScope s_back_and_forth) := ⟨rfl, rfl, rfl, by decide +kernel, rfl, by decide +kernel, by decide +kernel⟩
def den_back_and_forth : List D → M D := runF 2 2 (gSeq (gExp (fL den_check_crosswise (aC (gVar 0) (aC (gVar 1) aN)))) (gRet (gBinO "Table" den_Table_mul (gBinO "Table" den_Table_mul (gVar 0) (gVar 1)) (gVar 0))))
theorem ok_back_and_forth {f : Addr} {fd : FuncData} (F : FunD K "back_and_forth" "back_and_forth" (defArgs s_back_and_forth) (defBody s_back_and_forth) (defScope s_back_and_forth) [] [] f fd) (gf : mg "back_and_forth" = some (.ref f)) (c_check_crosswise : Cal P w K mg base 6 "check_crosswise" (defArgs s_check_crosswise) (defBody s_check_crosswise) (defScope s_check_crosswise) ["table", "other"] den_check_crosswise) (m_Table_mul : Mth P w K mg base 6 "Table" "__mul__" ["self", "other"] den_Table_mul) (sf_Table : PySem.W.selfFirst K (He.ga K "Table") = true) :
    Cal P w K mg base 7 "back_and_forth" (defArgs s_back_and_forth) (defBody s_back_and_forth) (defScope s_back_and_forth) ["table", "other"] den_back_and_forth := by
  refine ⟨f, fd, gf, F, F.bindsN fun _ _ _ _ _ _ us hl => match us, hl with | [_, _], _ => rfl, fn_den (N := N_back_and_forth) F sc_back_and_forth fun cdv A outer s H E hr => ?_⟩
  have hN : N_back_and_forth.Nodup := sc_back_and_forth.nd
  have hp : PassesOwn (model P w) _ _ _ := passes_of (X := cxOf (L2N.CX P w) P w K mg base N_back_and_forth "back_and_forth" (defScope s_back_and_forth) f cdv A outer s H E) rfl
  have tk : Den.Takes (cxOf (L2N.CX P w) P w K mg base N_back_and_forth "back_and_forth" (defScope s_back_and_forth) f cdv A outer s H E) (wE E) := L2N.takes_of rfl rfl rfl rfl
  exact (ss_cons (sExp (xCall c_check_crosswise tk (hr.mono (by omega)) (aCons (xV 0) (aCons (xV 1) aNil)))) (ss_one (sRet (xBinO (md := "__mul__") (by kernel_rfl) m_Table_mul sf_Table tk (hr.mono (by omega)) (xBinO (md := "__mul__") (by kernel_rfl) m_Table_mul sf_Table tk (hr.mono (by omega)) (xV 0) (xV 1)) (xV 0)))))
def N_Table_eq : List Str := ["self", "other"]
theorem sc_Table_eq : FnScope N_Table_eq ["self", "other"] (defScope s_Table_eq) := ⟨rfl, rfl, rfl, by decide +kernel, rfl, by decide +kernel, by decide +kernel⟩
def den_Table_eq : List D → M D := runF 2 2 (gRet (fAnd (gIsi (some "Table") [.own "Table"] (gVar 1)) (fAnd (f2 dEq (gFld "Table" "_width" (gVar 0)) (gFld "Table" "_width" (gVar 1))) (f2 dEq (gFld "Table" "_cells" (gVar 0)) (gFld "Table" "_cells" (gVar 1))))))
theorem ok_Table_eq {f : Addr} {fd : FuncData} (F : FunD K "__eq__" "Table.__eq__" (defArgs s_Table_eq) (defBody s_Table_eq) (defScope s_Table_eq) [] [] f fd) (fl_Table__cells : Fld K "Table" "_cells") (fl_Table__width : Fld K "Table" "_width") (ic_Table : InstC K "Table") (g_Table : mg "Table" = some (.ref (He.ga K "Table"))) (n_isinstance : mg "isinstance" = none) :
    Binds K fd ["self", "other"] [] ∧ FnOk P w K mg base (L2N.CX P w) 1 f fd ["self", "other"] (spOf K den_Table_eq) := by
  refine ⟨F.bindsN fun _ _ _ _ _ _ us hl => match us, hl with | [_, _], _ => rfl, fn_den (N := N_Table_eq) F sc_Table_eq fun cdv A outer s H E hr => ?_⟩
  have hN : N_Table_eq.Nodup := sc_Table_eq.nd
  have hp : PassesOwn (model P w) _ _ _ := passes_of (X := cxOf (L2N.CX P w) P w K mg base N_Table_eq "Table.__eq__" (defScope s_Table_eq) f cdv A outer s H E) rfl
  have tk : Den.Takes (cxOf (L2N.CX P w) P w K mg base N_Table_eq "Table.__eq__" (defScope s_Table_eq) f cdv A outer s H E) (wE E) := L2N.takes_of rfl rfl rfl rfl
  exact (ss_one (sRet (xAnd (xIsiO ic_Table (xV 1) n_isinstance g_Table) (xAnd (xEq hr (xFld fl_Table__width (xV 0)) (xFld fl_Table__width (xV 1))) (xOne (xEq hr (xFld fl_Table__cells (xV 0)) (xFld fl_Table__cells (xV 1))))))))
def N_leads_back : List Str := ["table", "other"]
theorem sc_leads_back : FnScope N_leads_back ["table", "other"] (defScope s_leads_back) := ⟨rfl, rfl, rfl, by decide +kernel, rfl, by decide +kernel, by decide +kernel⟩
def den_leads_back : List D → M D := runF 2 2 (gRet (f2 (dEqC "Table" den_Table_eq) (fL den_back_and_forth (aC (gVar 0) (aC (gVar 1) aN))) (gVar 0)))
theorem ok_leads_back {f : Addr} {fd : FuncData} (F : FunD K "leads_back" "leads_back" (defArgs s_leads_back) (defBody s_leads_back) (defScope s_leads_back) [] [] f fd) (gf : mg "leads_back" = some (.ref f)) (c_back_and_forth : Cal P w K mg base 7 "back_and_forth" (defArgs s_back_and_forth) (defBody s_back_and_forth) (defScope s_back_and_forth) ["table", "other"] den_back_and_forth) (m_Table_eq : Mth P w K mg base 1 "Table" "__eq__" ["self", "other"] den_Table_eq) :
    Cal P w K mg base 8 "leads_back" (defArgs s_leads_back) (defBody s_leads_back) (defScope s_leads_back) ["table", "other"] den_leads_back := by
  refine ⟨f, fd, gf, F, F.bindsN fun _ _ _ _ _ _ us hl => match us, hl with | [_, _], _ => rfl, fn_den (N := N_leads_back) F sc_leads_back fun cdv A outer s H E hr => ?_⟩
  have hN : N_leads_back.Nodup := sc_leads_back.nd
  have hp : PassesOwn (model P w) _ _ _ := passes_of (X := cxOf (L2N.CX P w) P w K mg base N_leads_back "leads_back" (defScope s_leads_back) f cdv A outer s H E) rfl
  have tk : Den.Takes (cxOf (L2N.CX P w) P w K mg base N_leads_back "leads_back" (defScope s_leads_back) f cdv A outer s H E) (wE E) := L2N.takes_of rfl rfl rfl rfl
  exact (ss_one (sRet (xEqO m_Table_eq (hr.mono (by omega)) (xCall c_back_and_forth tk (hr.mono (by omega)) (aCons (xV 0) (aCons (xV 1) aNil))) (xV 0))))
def N_check_same_size : List Str := ["first", "second"]
theorem sc_check_same_size : FnScope N_check_same_size ["first", "second"] (defScope s_check_same_size) := ⟨rfl, rfl, rfl, by decide +kernel, rfl, by decide +kernel, by decide +kernel⟩
def den_check_same_size : List D → M D := runF 2 2 (gIf (t2 dNe (gProp "Table" den_Table_size (gVar 0)) (gProp "Table" den_Table_size (gVar 1))) (gRaise "UnlikeSizes" ["first", "second"] (aC (gProp "Table" den_Table_size (gVar 0)) (aC (gProp "Table" den_Table_size (gVar 1)) aN))) (fun ρ => pure (.nx ρ)))
theorem ok_check_same_size {f : Addr} {fd : FuncData} (F : FunD K "check_same_size" "check_same_size" (defArgs s_check_same_size) (defBody s_check_same_size) (defScope s_check_same_size) [] [] f fd) (gf : mg "check_same_size" = some (.ref f)) (p_Table_size : Prp P w K mg base 3 "Table" "size" ["self"] den_Table_size) (x_UnlikeSizes : Exn P w K mg base 1 "UnlikeSizes" ["first", "second"] ["self", "first", "second"]) :
    Cal P w K mg base 5 "check_same_size" (defArgs s_check_same_size) (defBody s_check_same_size) (defScope s_check_same_size) ["first", "second"] den_check_same_size := by
  refine ⟨f, fd, gf, F, F.bindsN fun _ _ _ _ _ _ us hl => match us, hl with | [_, _], _ => rfl, fn_den (N := N_check_same_size) F sc_check_same_size fun cdv A outer s H E hr => ?_⟩
  have hN : N_check_same_size.Nodup := sc_check_same_size.nd
  have hp : PassesOwn (model P w) _ _ _ := passes_of (X := cxOf (L2N.CX P w) P w K mg base N_check_same_size "check_same_size" (defScope s_check_same_size) f cdv A outer s H E) rfl
  have tk : Den.Takes (cxOf (L2N.CX P w) P w K mg base N_check_same_size "check_same_size" (defScope s_check_same_size) f cdv A outer s H E) (wE E) := L2N.takes_of rfl rfl rfl rfl
  exact (ss_one (ss_if (cNe hr (xProp p_Table_size (hr.mono (by omega)) (xV 0)) (xProp p_Table_size (hr.mono (by omega)) (xV 1))) (ss_one (sRaise x_UnlikeSizes tk rfl (hr.mono (by omega)) (aCons (xProp p_Table_size (hr.mono (by omega)) (xV 0)) (aCons (xProp p_Table_size (hr.mono (by omega)) (xV 1)) aNil)))) ss_nil))
def N_Table_iter : List Str := ["self"]
theorem sc_Table_iter : FnScope N_Table_iter ["self"] (defScope s_Table_iter) := ⟨rfl, rfl, rfl, by decide +kernel, rfl, by decide +kernel, by decide +kernel⟩
def den_Table_iter : List D → M D := runF 1 1 (gRet (gFld "Table" "_cells" (gVar 0)))
theorem ok_Table_iter {f : Addr} {fd : FuncData} (F : FunD K "__iter__" "Table.__iter__" (defArgs s_Table_iter) (defBody s_Table_iter) (defScope s_Table_iter) [] [] f fd) (fl_Table__cells : Fld K "Table" "_cells") (n_iter : mg "iter" = none) :
    Binds K fd ["self"] [] ∧ FnIt P w K mg base (L2N.CX P w) 1 f fd ["self"] den_Table_iter := by
  refine ⟨F.bindsN fun _ _ _ _ _ _ us hl => match us, hl with | [_], _ => rfl, fn_it (N := N_Table_iter) F sc_Table_iter n_iter (fun _ => rfl) (fun _ _ _ _ _ _ => rfl) fun cdv A outer s H E hr => ?_⟩
  have hN : N_Table_iter.Nodup := sc_Table_iter.nd
  have hp : PassesOwn (model P w) _ _ _ := passes_of (X := cxOf (L2N.CX P w) P w K mg base N_Table_iter "Table.__iter__" (defScope s_Table_iter) f cdv A outer s H E) rfl
  have tk : Den.Takes (cxOf (L2N.CX P w) P w K mg base N_Table_iter "Table.__iter__" (defScope s_Table_iter) f cdv A outer s H E) (wE E) := L2N.takes_of rfl rfl rfl rfl
  exact (xFld fl_Table__cells (xV 0))
def N_is_number_pair : List Str := ["value", "size"]
theorem sc_is_number_pair : FnScope N_is_number_pair ["value", "size"] (defScope s_is_number_pair) := ⟨rfl, rfl, rfl, by decide +kernel, rfl, by decide +kernel, by decide +kernel⟩
def den_is_number_pair : List D → M D := runF 2 2 (gSeq (gIf (tOr (tNo (tT (gIsi none [.ty "tuple"] (gVar 0)))) (t2 dNe (fL dLen (aC (gVar 0) aN)) (fC (.int 2)))) (gRet (fC (.bl false))) (fun ρ => pure (.nx ρ))) (gRet (fAnd (fL den_is_number (aC (f2 dIx (gVar 0) (fC (.int 0))) (aC (f2 dIx (gVar 1) (fC (.int 0))) aN))) (fL den_is_number (aC (f2 dIx (gVar 0) (fC (.int 1))) (aC (f2 dIx (gVar 1) (fC (.int 1))) aN))))))
theorem ok_is_number_pair {f : Addr} {fd : FuncData} (F : FunD K "is_number_pair" "is_number_pair" (defArgs s_is_number_pair) (defBody s_is_number_pair) (defScope s_is_number_pair) [] [] f fd) (gf : mg "is_number_pair" = some (.ref f)) (c_is_number : Cal P w K mg base 1 "is_number" (defArgs s_is_number) (defBody s_is_number) (defScope s_is_number) ["value", "below"] den_is_number) (n_isinstance : mg "isinstance" = none) (n_len : mg "len" = none) (n_tuple : mg "tuple" = none) :
    Cal P w K mg base 2 "is_number_pair" (defArgs s_is_number_pair) (defBody s_is_number_pair) (defScope s_is_number_pair) ["value", "size"] den_is_number_pair := by
  refine ⟨f, fd, gf, F, F.bindsN fun _ _ _ _ _ _ us hl => match us, hl with | [_, _], _ => rfl, fn_den (N := N_is_number_pair) F sc_is_number_pair fun cdv A outer s H E hr => ?_⟩
  have hN : N_is_number_pair.Nodup := sc_is_number_pair.nd
  have hp : PassesOwn (model P w) _ _ _ := passes_of (X := cxOf (L2N.CX P w) P w K mg base N_is_number_pair "is_number_pair" (defScope s_is_number_pair) f cdv A outer s H E) rfl
  have tk : Den.Takes (cxOf (L2N.CX P w) P w K mg base N_is_number_pair "is_number_pair" (defScope s_is_number_pair) f cdv A outer s H E) (wE E) := L2N.takes_of rfl rfl rfl rfl
  exact (ss_cons (ss_if (cBo (cOr (cNot (cTru (xIsi_tuple (xV 0) n_isinstance n_tuple))) (cOr1 (cNe hr (xLen n_len (aCons (xV 0) aNil)) xI)))) (ss_one (sRet xB)) ss_nil) (ss_one (sRet (xAnd (xCall c_is_number tk (hr.mono (by omega)) (aCons (xIx (xV 0) xI) (aCons (xIx (xV 1) xI) aNil))) (xOne (xCall c_is_number tk (hr.mono (by omega)) (aCons (xIx (xV 0) xI) (aCons (xIx (xV 1) xI) aNil))))))))
def N_Table_getitem : List Str := ["self", "at"]
theorem sc_Table_getitem : FnScope N_Table_getitem ["self", "at"] (defScope s_Table_getitem) := ⟨rfl, rfl, rfl, by decide +kernel, rfl, by decide +kernel, by decide +kernel⟩
def den_Table_getitem : List D → M D := runF 2 2 (gSeq (gIf (tNo (tT (fL den_is_number_pair (aC (gVar 1) (aC (gProp "Table" den_Table_size (gVar 0)) aN))))) (gRaise "BadPlace" ["place"] (aC (gVar 1) aN)) (fun ρ => pure (.nx ρ))) (gRet (f2 dIx (f2 dIx (gFld "Table" "_cells" (gVar 0)) (f2 dIx (gVar 1) (fC (.int 0)))) (f2 dIx (gVar 1) (fC (.int 1))))))
theorem ok_Table_getitem {f : Addr} {fd : FuncData} (F : FunD K "__getitem__" "Table.__getitem__" (defArgs s_Table_getitem) (defBody s_Table_getitem) (defScope s_Table_getitem) [] [] f fd) (c_is_number_pair : Cal P w K mg base 2 "is_number_pair" (defArgs s_is_number_pair) (defBody s_is_number_pair) (defScope s_is_number_pair) ["value", "size"] den_is_number_pair) (p_Table_size : Prp P w K mg base 3 "Table" "size" ["self"] den_Table_size) (fl_Table__cells : Fld K "Table" "_cells") (x_BadPlace : Exn P w K mg base 1 "BadPlace" ["place"] ["self", "place"]) :
    Binds K fd ["self", "at"] [] ∧ FnOk P w K mg base (L2N.CX P w) 5 f fd ["self", "at"] (spOf K den_Table_getitem) := by
  refine ⟨F.bindsN fun _ _ _ _ _ _ us hl => match us, hl with | [_, _], _ => rfl, fn_den (N := N_Table_getitem) F sc_Table_getitem fun cdv A outer s H E hr => ?_⟩
  have hN : N_Table_getitem.Nodup := sc_Table_getitem.nd
  have hp : PassesOwn (model P w) _ _ _ := passes_of (X := cxOf (L2N.CX P w) P w K mg base N_Table_getitem "Table.__getitem__" (defScope s_Table_getitem) f cdv A outer s H E) rfl
  have tk : Den.Takes (cxOf (L2N.CX P w) P w K mg base N_Table_getitem "Table.__getitem__" (defScope s_Table_getitem) f cdv A outer s H E) (wE E) := L2N.takes_of rfl rfl rfl rfl
  exact (ss_cons (ss_if (cNot (cTru (xCall c_is_number_pair tk (hr.mono (by omega)) (aCons (xV 1) (aCons (xProp p_Table_size (hr.mono (by omega)) (xV 0)) aNil))))) (ss_one (sRaise x_BadPlace tk rfl (hr.mono (by omega)) (aCons (xV 1) aNil))) ss_nil) (ss_one (sRet (xIx (xIx (xFld fl_Table__cells (xV 0)) (xIx (xV 1) xI)) (xIx (xV 1) xI)))))
def N_first_outside : List Str := ["first", "second", "row", "cells", "column", "cell"]
theorem sc_first_outside : FnScope N_first_outside ["first", "second"] (defScope s_first_outside) := ⟨rfl, rfl, rfl, by decide +kernel, rfl, by decide +kernel, by decide +kernel⟩
def den_first_outside : List D → M D := runF 2 6 (gSeq (gExp (fL den_check_same_size (aC (gVar 0) (aC (gVar 1) aN)))) (gSeq (gFor (iG (dEnumO "Table" den_Table_iter) (aC (gVar 0) aN)) (bPair 2 3) (gFor (iG dEnumT (aC (gVar 3) aN)) (bPair 4 5) (gIf (tAnd (tT (gVar 5)) (tNo (tT (gGetO "Table" den_Table_getitem (gVar 1) (fTup (aC (gVar 2) (aC (gVar 4) aN))))))) (gRet (fTup (aC (gVar 2) (aC (gVar 4) aN)))) (fun ρ => pure (.nx ρ))))) (gRet (fC .non))))
theorem ok_first_outside {f : Addr} {fd : FuncData} (F : FunD K "first_outside" "first_outside" (defArgs s_first_outside) (defBody s_first_outside) (defScope s_first_outside) [] [] f fd) (gf : mg "first_outside" = some (.ref f)) (c_check_same_size : Cal P w K mg base 5 "check_same_size" (defArgs s_check_same_size) (defBody s_check_same_size) (defScope s_check_same_size) ["first", "second"] den_check_same_size) (m_Table_getitem : Mth P w K mg base 5 "Table" "__getitem__" ["self", "at"] den_Table_getitem) (mi_Table : MthI P w K mg base 1 "Table" "__iter__" ["self"] den_Table_iter) (gf_Table : ∀ fa, PySem.W.findIn K (.ref (He.ga K "Table")) "__getitem__" = some (some (.ref fa)) → PySem.W.fnIn K fa = true) (n_enumerate : mg "enumerate" = none) :
    Cal P w K mg base 7 "first_outside" (defArgs s_first_outside) (defBody s_first_outside) (defScope s_first_outside) ["first", "second"] den_first_outside := by
  refine ⟨f, fd, gf, F, F.bindsN fun _ _ _ _ _ _ us hl => match us, hl with | [_, _], _ => rfl, fn_den (N := N_first_outside) F sc_first_outside fun cdv A outer s H E hr => ?_⟩
  have hN : N_first_outside.Nodup := sc_first_outside.nd
  have hp : PassesOwn (model P w) _ _ _ := passes_of (X := cxOf (L2N.CX P w) P w K mg base N_first_outside "first_outside" (defScope s_first_outside) f cdv A outer s H E) rfl
  have tk : Den.Takes (cxOf (L2N.CX P w) P w K mg base N_first_outside "first_outside" (defScope s_first_outside) f cdv A outer s H E) (wE E) := L2N.takes_of rfl rfl rfl rfl
  exact (ss_cons (sExp (xCall c_check_same_size tk (hr.mono (by omega)) (aCons (xV 0) (aCons (xV 1) aNil)))) (ss_cons (sForP 2 3 hN hp rfl (jEnO n_enumerate mi_Table tk (hr.mono (by omega)) (aCons (xV 0) aNil)) (ss_one (sForP 4 5 hN hp rfl (jEnT n_enumerate (aCons (xV 3) aNil)) (ss_one (ss_if (cBo (cAnd (cTru (xV 5)) (cAnd1 (cNot (cTru (xGetO m_Table_getitem gf_Table tk (hr.mono (by omega)) (xV 1) (xTup (aCons (xV 2) (aCons (xV 4) aNil))))))))) (ss_one (sRet (xTup (aCons (xV 2) (aCons (xV 4) aNil))))) ss_nil))))) (ss_one (sRet xN))))
def N_is_inside : List Str := ["first", "second"]
theorem sc_is_inside : FnScope N_is_inside ["first", "second"] (defScope s_is_inside) := ⟨rfl, rfl, rfl, by decide +kernel, rfl, by decide +kernel, by decide +kernel⟩
def den_is_inside : List D → M D := runF 2 2 (gRet (f2 dIsN (fL den_first_outside (aC (gVar 0) (aC (gVar 1) aN))) (fC .non)))
theorem ok_is_inside {f : Addr} {fd : FuncData} (F : FunD K "is_inside" "is_inside" (defArgs s_is_inside) (defBody s_is_inside) (defScope s_is_inside) [] [] f fd) (gf : mg "is_inside" = some (.ref f)) (c_first_outside : Cal P w K mg base 7 "first_outside" (defArgs s_first_outside) (defBody s_first_outside) (defScope s_first_outside) ["first", "second"] den_first_outside) :
    Cal P w K mg base 8 "is_inside" (defArgs s_is_inside) (defBody s_is_inside) (defScope s_is_inside) ["first", "second"] den_is_inside := by
  refine ⟨f, fd, gf, F, F.bindsN fun _ _ _ _ _ _ us hl => match us, hl with | [_, _], _ => rfl, fn_den (N := N_is_inside) F sc_is_inside fun cdv A outer s H E hr => ?_⟩
  have hN : N_is_inside.Nodup := sc_is_inside.nd
  have hp : PassesOwn (model P w) _ _ _ := passes_of (X := cxOf (L2N.CX P w) P w K mg base N_is_inside "is_inside" (defScope s_is_inside) f cdv A outer s H E) rfl
  have tk : Den.Takes (cxOf (L2N.CX P w) P w K mg base N_is_inside "is_inside" (defScope s_is_inside) f cdv A outer s H E) (wE E) := L2N.takes_of rfl rfl rfl rfl
  exact (ss_one (sRet (xIs (xCall c_first_outside tk (hr.mono (by omega)) (aCons (xV 0) (aCons (xV 1) aNil))) xN)))
def N_is_under : List Str := ["table", "other"]
theorem sc_is_under : FnScope N_is_under ["table", "other"] (defScope s_is_under) := ⟨rfl, rfl, rfl, by decide +kernel, rfl, by decide +kernel, by decide +kernel⟩
def den_is_under : List D → M D := runF 2 2 (gRet (fL den_is_inside (aC (fL den_back_and_forth (aC (gVar 0) (aC (gVar 1) aN))) (aC (gVar 0) aN))))
theorem ok_is_under {f : Addr} {fd : FuncData} (F : FunD K "is_under" "is_under" (defArgs s_is_under) (defBody s_is_under) (defScope s_is_under) [] [] f fd) (gf : mg "is_under" = some (.ref f)) (c_back_and_forth : Cal P w K mg base 7 "back_and_forth" (defArgs s_back_and_forth) (defBody s_back_and_forth) (defScope s_back_and_forth) ["table", "other"] den_back_and_forth) (c_is_inside : Cal P w K mg base 8 "is_inside" (defArgs s_is_inside) (defBody s_is_inside) (defScope s_is_inside) ["first", "second"] den_is_inside) :
    Cal P w K mg base 9 "is_under" (defArgs s_is_under) (defBody s_is_under) (defScope s_is_under) ["table", "other"] den_is_under := by
  refine ⟨f, fd, gf, F, F.bindsN fun _ _ _ _ _ _ us hl => match us, hl with | [_, _], _ => rfl, fn_den (N := N_is_under) F sc_is_under fun cdv A outer s H E hr => ?_⟩
  have hN : N_is_under.Nodup := sc_is_under.nd
  have hp : PassesOwn (model P w) _ _ _ := passes_of (X := cxOf (L2N.CX P w) P w K mg base N_is_under "is_under" (defScope s_is_under) f cdv A outer s H E) rfl
  have tk : Den.Takes (cxOf (L2N.CX P w) P w K mg base N_is_under "is_under" (defScope s_is_under) f cdv A outer s H E) (wE E) := L2N.takes_of rfl rfl rfl rfl
  exact (ss_one (sRet (xCall c_is_inside tk (hr.mono (by omega)) (aCons (xCall c_back_and_forth tk (hr.mono (by omega)) (aCons (xV 0) (aCons (xV 1) aNil))) (aCons (xV 0) aNil)))))
def N__law_same : List Str := ["value", "due", "k"]
theorem sc__law_same : FnScope N__law_same ["value", "due"] (defScope s__law_same) := ⟨rfl, rfl, rfl, by decide +kernel, rfl, by decide +kernel, by decide +kernel⟩
def den__law_same : Nat → List D → M D
  | 0 => runF 2 3 gBad
  | n + 1 => runF 2 3 (gSeq (gIf (tT (gIsi none [.ty "tuple", .ty "list"] (gVar 1))) (gSeq (gIf (tOr (tNo (tT (gIsi none [.ty "tuple", .ty "list"] (gVar 0)))) (t2 dNe (gIsi none [.ty "tuple"] (gVar 0)) (gIsi none [.ty "tuple"] (gVar 1)))) (gRet (fC (.bl false))) (fun ρ => pure (.nx ρ))) (gSeq (gIf (t2 dNe (fL dLen (aC (gVar 0) aN)) (fL dLen (aC (gVar 1) aN))) (gRet (fC (.bl false))) (fun ρ => pure (.nx ρ))) (gRet (fL dAll (aC (fNew (compV (eName 2) (iRan 1 (aC (fL dLen (aC (gVar 1) aN)) aN)) tYes (fL (den__law_same n) (aC (f2 dIx (gVar 0) (gVar 2)) (aC (f2 dIx (gVar 1) (gVar 2)) aN))))) aN))))) (fun ρ => pure (.nx ρ))) (gSeq (gIf (tOr (t2 dIsN (gVar 1) (fC .non)) (t2 dIsN (gVar 0) (fC .non))) (gRet (fAnd (f2 dIsN (gVar 1) (fC .non)) (f2 dIsN (gVar 0) (fC .non)))) (fun ρ => pure (.nx ρ))) (gSeq (gIf (tOr (tT (gIsi none [.ty "bool"] (gVar 1))) (tT (gIsi none [.ty "bool"] (gVar 0)))) (gRet (fAnd (gIsi none [.ty "bool"] (gVar 1)) (fAnd (gIsi none [.ty "bool"] (gVar 0)) (f2 dEq (gVar 0) (gVar 1))))) (fun ρ => pure (.nx ρ))) (gSeq (gIf (tT (gIsi none [.ty "str"] (gVar 1))) (gRet (fAnd (gIsi none [.ty "str"] (gVar 0)) (f2 dEq (gVar 0) (gVar 1)))) (fun ρ => pure (.nx ρ))) (gRet (fAnd (gIsi none [.ty "int"] (gVar 1)) (fAnd (gIsi none [.ty "int"] (gVar 0)) (f2 dEq (gVar 0) (gVar 1)))))))))
theorem ok__law_same {f : Addr} {fd : FuncData} (F : FunD K "_law_same" "_law_same" (defArgs s__law_same) (defBody s__law_same) (defScope s__law_same) [] [] f fd) (gf : mg "_law_same" = some (.ref f)) (n_all : mg "all" = none) (n_bool : mg "bool" = none) (n_int : mg "int" = none) (n_isinstance : mg "isinstance" = none) (n_len : mg "len" = none) (n_list : mg "list" = none) (n_range : mg "range" = none) (n_str : mg "str" = none) (n_tuple : mg "tuple" = none) :
    ∀ n, Cal P w K mg base (n + 1) "_law_same" (defArgs s__law_same) (defBody s__law_same) (defScope s__law_same) ["value", "due"] (den__law_same n)
  | 0 => ⟨f, fd, gf, F, F.bindsN fun _ _ _ _ _ _ us hl => match us, hl with | [_, _], _ => rfl, (fn_den (N := N__law_same) (k := 0) F sc__law_same fun cdv A outer s H E hr => ss_bad : _)⟩
  | n + 1 => by
    have ih := ok__law_same F gf n_all n_bool n_int n_isinstance n_len n_list n_range n_str n_tuple n
    refine ⟨f, fd, gf, F, F.bindsN fun _ _ _ _ _ _ us hl => match us, hl with | [_, _], _ => rfl, ?_⟩
    rw [show n + 1 + 1 = (n + 1) + 1 by omega]
    refine fn_den (N := N__law_same) F sc__law_same fun cdv A outer s H E hr => ?_
    have hN : N__law_same.Nodup := sc__law_same.nd
    have hp : PassesOwn (model P w) _ _ _ := passes_of (X := cxOf (L2N.CX P w) P w K mg base N__law_same "_law_same" (defScope s__law_same) f cdv A outer s H E) rfl
    have tk : Den.Takes (cxOf (L2N.CX P w) P w K mg base N__law_same "_law_same" (defScope s__law_same) f cdv A outer s H E) (wE E) := L2N.takes_of rfl rfl rfl rfl
    exact (ss_cons (ss_if (cTru (xIsiT "tuple" "list" bt_tuple bt_list (by decide) (by decide) (by decide) (by decide) (by decide) (xV 1) n_isinstance n_tuple n_list)) (ss_cons (ss_if (cBo (cOr (cNot (cTru (xIsiT "tuple" "list" bt_tuple bt_list (by decide) (by decide) (by decide) (by decide) (by decide) (xV 0) n_isinstance n_tuple n_list))) (cOr1 (cNe hr (xIsi_tuple (xV 0) n_isinstance n_tuple) (xIsi_tuple (xV 1) n_isinstance n_tuple))))) (ss_one (sRet xB)) ss_nil) (ss_cons (ss_if (cNe hr (xLen n_len (aCons (xV 0) aNil)) (xLen n_len (aCons (xV 1) aNil))) (ss_one (sRet xB)) ss_nil) (ss_one (sRet (xAll rfl n_all (aCons (xNew (lLc 2 rfl hN (jR1 n_range (aCons (xLen n_len (aCons (xV 1) aNil)) aNil)) (fun _ _ _ _ _ => cNone) (fun _ _ _ _ _ => (xCall ih tk0 (hr.mono (by omega)) (aCons (xIx (xV 0) (xV 2)) (aCons (xIx (xV 1) (xV 2)) aNil)))))) aNil)))))) ss_nil) (ss_cons (ss_if (cBo (cOr (cIs (xV 1) xN) (cOr1 (cIs (xV 0) xN)))) (ss_one (sRet (xAnd (xIs (xV 1) xN) (xOne (xIs (xV 0) xN))))) ss_nil) (ss_cons (ss_if (cBo (cOr (cTru (xIsi_bool (xV 1) n_isinstance n_bool)) (cOr1 (cTru (xIsi_bool (xV 0) n_isinstance n_bool))))) (ss_one (sRet (xAnd (xIsi_bool (xV 1) n_isinstance n_bool) (xAnd (xIsi_bool (xV 0) n_isinstance n_bool) (xOne (xEq hr (xV 0) (xV 1))))))) ss_nil) (ss_cons (ss_if (cTru (xIsi_str (xV 1) n_isinstance n_str)) (ss_one (sRet (xAnd (xIsi_str (xV 0) n_isinstance n_str) (xOne (xEq hr (xV 0) (xV 1)))))) ss_nil) (ss_one (sRet (xAnd (xIsi_int (xV 1) n_isinstance n_int) (xAnd (xIsi_int (xV 0) n_isinstance n_int) (xOne (xEq hr (xV 0) (xV 1)))))))))))
theorem okX__law_same {f : Addr} {fd : FuncData} (F : FunD K "_law_same" "_law_same" (defArgs s__law_same) (defBody s__law_same) (defScope s__law_same) [] [] f fd) (gf : mg "_law_same" = some (.ref f)) (n_all : mg "all" = none) (n_bool : mg "bool" = none) (n_int : mg "int" = none) (n_isinstance : mg "isinstance" = none) (n_len : mg "len" = none) (n_list : mg "list" = none) (n_range : mg "range" = none) (n_str : mg "str" = none) (n_tuple : mg "tuple" = none) :
    ∀ n, CalX P w K mg base (n + 1) "_law_same" (defArgs s__law_same) (defBody s__law_same) (defScope s__law_same) ["value", "due"] (den__law_same n)
  | 0 => ⟨f, fd, gf, F, F.bindsN fun _ _ _ _ _ _ us hl => match us, hl with | [_, _], _ => rfl, (fn_denX (N := N__law_same) (k := 0) F sc__law_same fun q cdv A outer s H E hd hr => ss_bad : _)⟩
  | n + 1 => by
    have ih := okX__law_same F gf n_all n_bool n_int n_isinstance n_len n_list n_range n_str n_tuple n
    refine ⟨f, fd, gf, F, F.bindsN fun _ _ _ _ _ _ us hl => match us, hl with | [_, _], _ => rfl, ?_⟩
    rw [show n + 1 + 1 = (n + 1) + 1 by omega]
    refine fn_denX (N := N__law_same) F sc__law_same fun q cdv A outer s H E hd hr => ?_
    have hN : N__law_same.Nodup := sc__law_same.nd
    have hp : PassesOwn (model P w) _ _ _ := passes_of (X := (cxX P w K mg base N__law_same "_law_same" (defScope s__law_same) f cdv A outer s H E q)) rfl
    have tk : Den.Takes (cxX P w K mg base N__law_same "_law_same" (defScope s__law_same) f cdv A outer s H E q) (wE E) := L2N.takes_of rfl rfl rfl rfl
    exact (ss_cons (ss_if (cTru (xIsiT "tuple" "list" bt_tuple bt_list (by decide) (by decide) (by decide) (by decide) (by decide) (xV 1) n_isinstance n_tuple n_list)) (ss_cons (ss_if (cBo (cOr (cNot (cTru (xIsiT "tuple" "list" bt_tuple bt_list (by decide) (by decide) (by decide) (by decide) (by decide) (xV 0) n_isinstance n_tuple n_list))) (cOr1 (cNeX hr (xIsi_tuple (xV 0) n_isinstance n_tuple) (xIsi_tuple (xV 1) n_isinstance n_tuple))))) (ss_one (sRet xB)) ss_nil) (ss_cons (ss_if (cNeX hr (xLen n_len (aCons (xV 0) aNil)) (xLen n_len (aCons (xV 1) aNil))) (ss_one (sRet xB)) ss_nil) (ss_one (sRet (xAllX hd n_all (aCons (xNew (lLcX 2 hd hN (jR1X n_range (aCons (xLen n_len (aCons (xV 1) aNil)) aNil)) (fun _ _ _ _ _ => cNone) (fun _ _ _ _ _ => (xCallX ih (Hd1.blk hd) tk0 (hr.mono (by omega)) (aCons (xIx (xV 0) (xV 2)) (aCons (xIx (xV 1) (xV 2)) aNil)))))) aNil)))))) ss_nil) (ss_cons (ss_if (cBo (cOr (cIs (xV 1) xN) (cOr1 (cIs (xV 0) xN)))) (ss_one (sRet (xAnd (xIs (xV 1) xN) (xOne (xIs (xV 0) xN))))) ss_nil) (ss_cons (ss_if (cBo (cOr (cTru (xIsi_bool (xV 1) n_isinstance n_bool)) (cOr1 (cTru (xIsi_bool (xV 0) n_isinstance n_bool))))) (ss_one (sRet (xAnd (xIsi_bool (xV 1) n_isinstance n_bool) (xAnd (xIsi_bool (xV 0) n_isinstance n_bool) (xOne (xEqX hr (xV 0) (xV 1))))))) ss_nil) (ss_cons (ss_if (cTru (xIsi_str (xV 1) n_isinstance n_str)) (ss_one (sRet (xAnd (xIsi_str (xV 0) n_isinstance n_str) (xOne (xEqX hr (xV 0) (xV 1)))))) ss_nil) (ss_one (sRet (xAnd (xIsi_int (xV 1) n_isinstance n_int) (xAnd (xIsi_int (xV 0) n_isinstance n_int) (xOne (xEqX hr (xV 0) (xV 1)))))))))))
def N_Table_rows : List Str := ["self", "row"]
theorem sc_Table_rows : FnScope N_Table_rows ["self"] (defScope s_Table_rows) := ⟨rfl, rfl, rfl, by decide +kernel, rfl, by decide +kernel, by decide +kernel⟩
def den_Table_rows : List D → M D := runF 1 2 (gRet (fNew (compV (eName 1) (iSeq (gFld "Table" "_cells" (gVar 0))) tYes (fNew (lG dList (aC (gVar 1) aN))))))
theorem ok_Table_rows {f : Addr} {fd : FuncData} (F : FunD K "rows" "Table.rows" (defArgs s_Table_rows) (defBody s_Table_rows) (defScope s_Table_rows) [] [] f fd) (fl_Table__cells : Fld K "Table" "_cells") (n_list : mg "list" = none) :
    Binds K fd ["self"] [] ∧ FnOk P w K mg base (L2N.CX P w) 1 f fd ["self"] (spOf K den_Table_rows) := by
  refine ⟨F.bindsN fun _ _ _ _ _ _ us hl => match us, hl with | [_], _ => rfl, fn_den (N := N_Table_rows) F sc_Table_rows fun cdv A outer s H E hr => ?_⟩
  have hN : N_Table_rows.Nodup := sc_Table_rows.nd
  have hp : PassesOwn (model P w) _ _ _ := passes_of (X := cxOf (L2N.CX P w) P w K mg base N_Table_rows "Table.rows" (defScope s_Table_rows) f cdv A outer s H E) rfl
  have tk : Den.Takes (cxOf (L2N.CX P w) P w K mg base N_Table_rows "Table.rows" (defScope s_Table_rows) f cdv A outer s H E) (wE E) := L2N.takes_of rfl rfl rfl rfl
  exact (ss_one (sRet (xNew (lLc 1 rfl hN (jSeq (xFld fl_Table__cells (xV 0))) (fun _ _ _ _ _ => cNone) (fun _ _ _ _ _ => (xNew (lList n_list (aCons (xV 1) aNil))))))))
def N__law_shows : List Str := ["value", "grid", "row", "cell"]
theorem sc__law_shows : FnScope N__law_shows ["value", "grid"] (defScope s__law_shows) := ⟨rfl, rfl, rfl, by decide +kernel, rfl, by decide +kernel, by decide +kernel⟩
def den__law_shows : List D → M D := runF 2 4 (gSeq (gIf (tNo (tT (gIsi (some "Table") [.own "Table"] (gVar 0)))) (gRet (fC (.bl false))) (fun ρ => pure (.nx ρ))) (gSeq (gIf (tNo (tT (fL (den__law_same 6) (aC (fNew (lDis (aC (gProp "Table" den_Table_height (gVar 0)) (aC (gProp "Table" den_Table_width (gVar 0)) aN)))) (aC (fNew (lDis (aC (f2 dIx (gVar 1) (fC (.int 1))) (aC (f2 dIx (gVar 1) (fC (.int 2))) aN)))) aN))))) (gRet (fC (.bl false))) (fun ρ => pure (.nx ρ))) (gRet (fL (den__law_same 6) (aC (gProp "Table" den_Table_rows (gVar 0)) (aC (fNew (compV (eName 2) (iSeq (f2 dIx (gVar 1) (fC (.int 3)))) tYes (fNew (compV (eName 3) (iSeq (gVar 2)) tYes (gVar 3))))) aN))))))
theorem ok__law_shows {f : Addr} {fd : FuncData} (F : FunD K "_law_shows" "_law_shows" (defArgs s__law_shows) (defBody s__law_shows) (defScope s__law_shows) [] [] f fd) (gf : mg "_law_shows" = some (.ref f)) (c__law_same : Cal P w K mg base 7 "_law_same" (defArgs s__law_same) (defBody s__law_same) (defScope s__law_same) ["value", "due"] (den__law_same 6)) (p_Table_height : Prp P w K mg base 1 "Table" "height" ["self"] den_Table_height) (p_Table_rows : Prp P w K mg base 1 "Table" "rows" ["self"] den_Table_rows) (p_Table_width : Prp P w K mg base 1 "Table" "width" ["self"] den_Table_width) (ic_Table : InstC K "Table") (g_Table : mg "Table" = some (.ref (He.ga K "Table"))) (n_isinstance : mg "isinstance" = none) :
    Cal P w K mg base 8 "_law_shows" (defArgs s__law_shows) (defBody s__law_shows) (defScope s__law_shows) ["value", "grid"] den__law_shows := by
  refine ⟨f, fd, gf, F, F.bindsN fun _ _ _ _ _ _ us hl => match us, hl with | [_, _], _ => rfl, fn_den (N := N__law_shows) F sc__law_shows fun cdv A outer s H E hr => ?_⟩
  have hN : N__law_shows.Nodup := sc__law_shows.nd
  have hp : PassesOwn (model P w) _ _ _ := passes_of (X := cxOf (L2N.CX P w) P w K mg base N__law_shows "_law_shows" (defScope s__law_shows) f cdv A outer s H E) rfl
  have tk : Den.Takes (cxOf (L2N.CX P w) P w K mg base N__law_shows "_law_shows" (defScope s__law_shows) f cdv A outer s H E) (wE E) := L2N.takes_of rfl rfl rfl rfl
  exact (ss_cons (ss_if (cNot (cTru (xIsiO ic_Table (xV 0) n_isinstance g_Table))) (ss_one (sRet xB)) ss_nil) (ss_cons (ss_if (cNot (cTru (xCall c__law_same tk (hr.mono (by omega)) (aCons (xNew (lLst (aCons (xProp p_Table_height (hr.mono (by omega)) (xV 0)) (aCons (xProp p_Table_width (hr.mono (by omega)) (xV 0)) aNil)))) (aCons (xNew (lLst (aCons (xIx (xV 1) xI) (aCons (xIx (xV 1) xI) aNil)))) aNil))))) (ss_one (sRet xB)) ss_nil) (ss_one (sRet (xCall c__law_same tk (hr.mono (by omega)) (aCons (xProp p_Table_rows (hr.mono (by omega)) (xV 0)) (aCons (xNew (lLc 2 rfl hN (jSeq (xIx (xV 1) xI)) (fun _ _ _ _ _ => cNone) (fun _ _ _ _ _ => (xNew (lLc 3 rfl hN (jSeq (xV 2)) (fun _ _ _ _ _ => cNone) (fun _ _ _ _ _ => (xV 3))))))) aNil)))))))
def N__law_right : List Str := ["made", "grid", "way", "cross", "due", "told", "cells", "cell"]
theorem sc__law_right : FnScope N__law_right ["made", "grid", "way"] (defScope s__law_right) := ⟨rfl, rfl, rfl, by decide +kernel, rfl, by decide +kernel, by decide +kernel⟩
def den__law_right : List D → M D := runF 3 8 (gSeq (gAsg 3 [] (fL den__law_table (aC (gVar 2) aN))) (gSeq (gAsg 4 [] (fL den__law_there (aC (gVar 1) (aC (gVar 2) aN)))) (gSeq (gAsg 5 [] (fNew (lDis (aC (fL den_is_under (aC (gVar 0) (aC (gVar 3) aN))) (aC (fL den_leads_back (aC (gVar 0) (aC (gVar 3) aN))) aN))))) (gSeq (gIf (tNo (tT (fL den__law_shows (aC (fL den_back_and_forth (aC (gVar 0) (aC (gVar 3) aN))) (aC (gVar 4) aN))))) (gRet (fC (.bl false))) (fun ρ => pure (.nx ρ))) (gSeq (gAsg 6 [] (fL den__law_cells (aC (gVar 1) aN))) (gSeq (gIf (tNo (tT (fL (den__law_same 6) (aC (gVar 5) (aC (fNew (lDis (aC (fL dAll (aC (fNew (compV (eName 7) (iSeq (fL den__law_cells (aC (gVar 4) aN))) tYes (f2 dInL (gVar 7) (gVar 6)))) aN)) (aC (f2 dEq (gVar 4) (gVar 1)) aN)))) aN))))) (gRet (fC (.bl false))) (fun ρ => pure (.nx ρ))) (gRet (fAnd (fL den__law_shows (aC (gVar 0) (aC (gVar 1) aN))) (fL den__law_shows (aC (gVar 3) (aC (gVar 2) aN)))))))))))
theorem ok__law_right {f : Addr} {fd : FuncData} (F : FunD K "_law_right" "_law_right" (defArgs s__law_right) (defBody s__law_right) (defScope s__law_right) [] [] f fd) (gf : mg "_law_right" = some (.ref f)) (c__law_cells : Cal P w K mg base 1 "_law_cells" (defArgs s__law_cells) (defBody s__law_cells) (defScope s__law_cells) ["grid"] den__law_cells) (c__law_same : Cal P w K mg base 7 "_law_same" (defArgs s__law_same) (defBody s__law_same) (defScope s__law_same) ["value", "due"] (den__law_same 6)) (c__law_shows : Cal P w K mg base 8 "_law_shows" (defArgs s__law_shows) (defBody s__law_shows) (defScope s__law_shows) ["value", "grid"] den__law_shows) (c__law_table : Cal P w K mg base 6 "_law_table" (defArgs s__law_table) (defBody s__law_table) (defScope s__law_table) ["grid"] den__law_table) (c__law_there : Cal P w K mg base 2 "_law_there" (defArgs s__law_there) (defBody s__law_there) (defScope s__law_there) ["grid", "way"] den__law_there) (c_back_and_forth : Cal P w K mg base 7 "back_and_forth" (defArgs s_back_and_forth) (defBody s_back_and_forth) (defScope s_back_and_forth) ["table", "other"] den_back_and_forth) (c_is_under : Cal P w K mg base 9 "is_under" (defArgs s_is_under) (defBody s_is_under) (defScope s_is_under) ["table", "other"] den_is_under) (c_leads_back : Cal P w K mg base 8 "leads_back" (defArgs s_leads_back) (defBody s_leads_back) (defScope s_leads_back) ["table", "other"] den_leads_back) (n_all : mg "all" = none) :
    Cal P w K mg base 10 "_law_right" (defArgs s__law_right) (defBody s__law_right) (defScope s__law_right) ["made", "grid", "way"] den__law_right := by
  refine ⟨f, fd, gf, F, F.bindsN fun _ _ _ _ _ _ us hl => match us, hl with | [_, _, _], _ => rfl, fn_den (N := N__law_right) F sc__law_right fun cdv A outer s H E hr => ?_⟩
  have hN : N__law_right.Nodup := sc__law_right.nd
  have hp : PassesOwn (model P w) _ _ _ := passes_of (X := cxOf (L2N.CX P w) P w K mg base N__law_right "_law_right" (defScope s__law_right) f cdv A outer s H E) rfl
  have tk : Den.Takes (cxOf (L2N.CX P w) P w K mg base N__law_right "_law_right" (defScope s__law_right) f cdv A outer s H E) (wE E) := L2N.takes_of rfl rfl rfl rfl
  exact (ss_cons (sLet 3 [] hN (xCall c__law_table tk (hr.mono (by omega)) (aCons (xV 2) aNil))) (ss_cons (sLet 4 [] hN (xCall c__law_there tk (hr.mono (by omega)) (aCons (xV 1) (aCons (xV 2) aNil)))) (ss_cons (sLet 5 [] hN (xNew (lLst (aCons (xCall c_is_under tk (hr.mono (by omega)) (aCons (xV 0) (aCons (xV 3) aNil))) (aCons (xCall c_leads_back tk (hr.mono (by omega)) (aCons (xV 0) (aCons (xV 3) aNil))) aNil))))) (ss_cons (ss_if (cNot (cTru (xCall c__law_shows tk (hr.mono (by omega)) (aCons (xCall c_back_and_forth tk (hr.mono (by omega)) (aCons (xV 0) (aCons (xV 3) aNil))) (aCons (xV 4) aNil))))) (ss_one (sRet xB)) ss_nil) (ss_cons (sLet 6 [] hN (xCall c__law_cells tk (hr.mono (by omega)) (aCons (xV 1) aNil))) (ss_cons (ss_if (cNot (cTru (xCall c__law_same tk (hr.mono (by omega)) (aCons (xV 5) (aCons (xNew (lLst (aCons (xAll rfl n_all (aCons (xNew (lLc 7 rfl hN (jSeq (xCall c__law_cells tk (hr.mono (by omega)) (aCons (xV 4) aNil))) (fun _ _ _ _ _ => cNone) (fun _ _ _ _ _ => (xInL hr (xV 7) (xV 6))))) aNil)) (aCons (xEq hr (xV 4) (xV 1)) aNil)))) aNil))))) (ss_one (sRet xB)) ss_nil) (ss_one (sRet (xAnd (xCall c__law_shows tk (hr.mono (by omega)) (aCons (xV 0) (aCons (xV 1) aNil))) (xOne (xCall c__law_shows tk (hr.mono (by omega)) (aCons (xV 3) (aCons (xV 2) aNil)))))))))))))
def N__law_other_size : List Str := ["store", "high", "wide", "one", "more", "kind"]
theorem sc__law_other_size : FnScope N__law_other_size ["store", "high", "wide"] (defScope s__law_other_size) := ⟨rfl, rfl, rfl, by decide +kernel, rfl, by decide +kernel, by decide +kernel⟩
def den__law_other_size : List D → M D := runF 3 6 (gSeq (gAsg 3 [] (fL den__law_take (aC (gVar 0) (aC (fC (.int 7)) aN)))) (gSeq (gAsg 4 [] (f2 dAdd (fC (.int 1)) (fL den__law_take (aC (gVar 0) (aC (fC (.int 6)) aN))))) (gSeq (gAsg 5 [] (fL den__law_take (aC (gVar 0) (aC (fC (.int 3)) aN)))) (gSeq (gIf (tAnd (t2 dEq (gVar 5) (fC (.int 0))) (t2 dNe (gVar 1) (gVar 2))) (gRet (fNew (lDis (aC (gVar 2) (aC (gVar 1) aN))))) (fun ρ => pure (.nx ρ))) (gSeq (gIf (t2 dEq (gVar 5) (fC (.int 1))) (gRet (fNew (lDis (aC (f2 dMod (fL dInt (aC (f2 dAdd (gVar 1) (gVar 4)) aN)) (fC (.int 7))) (aC (gVar 2) aN))))) (fun ρ => pure (.nx ρ))) (gSeq (gIf (t2 dEq (gVar 5) (fC (.int 2))) (gRet (fNew (lDis (aC (gVar 1) (aC (f2 dMod (fL dInt (aC (f2 dAdd (gVar 2) (gVar 4)) aN)) (fC (.int 7))) aN))))) (fun ρ => pure (.nx ρ))) (gRet (fNew (lDis (aC (f2 dMod (fL dInt (aC (f2 dAdd (gVar 1) (gVar 4)) aN)) (fC (.int 7))) (aC (gVar 3) aN)))))))))))
theorem ok__law_other_size {f : Addr} {fd : FuncData} (F : FunD K "_law_other_size" "_law_other_size" (defArgs s__law_other_size) (defBody s__law_other_size) (defScope s__law_other_size) [] [] f fd) (gf : mg "_law_other_size" = some (.ref f)) (c__law_take : Cal P w K mg base 2 "_law_take" (defArgs s__law_take) (defBody s__law_take) (defScope s__law_take) ["store", "many"] den__law_take) (n_int : mg "int" = none) :
    Cal P w K mg base 3 "_law_other_size" (defArgs s__law_other_size) (defBody s__law_other_size) (defScope s__law_other_size) ["store", "high", "wide"] den__law_other_size := by
  refine ⟨f, fd, gf, F, F.bindsN fun _ _ _ _ _ _ us hl => match us, hl with | [_, _, _], _ => rfl, fn_den (N := N__law_other_size) F sc__law_other_size fun cdv A outer s H E hr => ?_⟩
  have hN : N__law_other_size.Nodup := sc__law_other_size.nd
  have hp : PassesOwn (model P w) _ _ _ := passes_of (X := cxOf (L2N.CX P w) P w K mg base N__law_other_size "_law_other_size" (defScope s__law_other_size) f cdv A outer s H E) rfl
  have tk : Den.Takes (cxOf (L2N.CX P w) P w K mg base N__law_other_size "_law_other_size" (defScope s__law_other_size) f cdv A outer s H E) (wE E) := L2N.takes_of rfl rfl rfl rfl
  exact (ss_cons (sLet 3 [] hN (xCall c__law_take tk (hr.mono (by omega)) (aCons (xV 0) (aCons xI aNil)))) (ss_cons (sLet 4 [] hN (xAdd xI (xCall c__law_take tk (hr.mono (by omega)) (aCons (xV 0) (aCons xI aNil))))) (ss_cons (sLet 5 [] hN (xCall c__law_take tk (hr.mono (by omega)) (aCons (xV 0) (aCons xI aNil)))) (ss_cons (ss_if (cBo (cAnd (cEq hr (xV 5) xI) (cAnd1 (cNe hr (xV 1) (xV 2))))) (ss_one (sRet (xNew (lLst (aCons (xV 2) (aCons (xV 1) aNil)))))) ss_nil) (ss_cons (ss_if (cEq hr (xV 5) xI) (ss_one (sRet (xNew (lLst (aCons (xMod (xInt n_int (aCons (xAdd (xV 1) (xV 4)) aNil)) xI) (aCons (xV 2) aNil)))))) ss_nil) (ss_cons (ss_if (cEq hr (xV 5) xI) (ss_one (sRet (xNew (lLst (aCons (xV 1) (aCons (xMod (xInt n_int (aCons (xAdd (xV 2) (xV 4)) aNil)) xI) aNil)))))) ss_nil) (ss_one (sRet (xNew (lLst (aCons (xMod (xInt n_int (aCons (xAdd (xV 1) (xV 4)) aNil)) xI) (aCons (xV 3) aNil))))))))))))
def N__law_lone : List Str := ["e", "strange"]
theorem sc__law_lone : FnScope N__law_lone ["e"] (defScope s__law_lone) := ⟨rfl, rfl, rfl, by decide +kernel, rfl, by decide +kernel, by decide +kernel⟩
def den__law_lone : List D → M D := runF 1 2 (gSeq (gAsg 1 [] (gIsx [("BadPlace", false), ("BadTable", true), ("UnlikeSizes", false)] (gVar 0))) (gSeq (gAsg 1 [] (fOr (gVar 1) (gIsx [("BadPlace", true), ("BadTable", false), ("UnlikeSizes", false)] (gVar 0)))) (gSeq (gAsg 1 [] (fOr (gVar 1) (gIsx [("BadPlace", false), ("BadTable", false), ("UnlikeSizes", false)] (gVar 0)))) (gRet (fAnd (fNot (gVar 1)) (fAnd (gIsx [("BadPlace", true), ("BadTable", true), ("UnlikeSizes", true)] (gVar 0)) (gIsx [("BadPlace", true), ("BadTable", true), ("UnlikeSizes", true)] (gVar 0))))))))
theorem ok__law_lone {f : Addr} {fd : FuncData} (F : FunD K "_law_lone" "_law_lone" (defArgs s__law_lone) (defBody s__law_lone) (defScope s__law_lone) [] [] f fd) (gf : mg "_law_lone" = some (.ref f)) (xc_BadPlace : ExcC K (He.ga K "BadPlace")) (xc_BadTable : ExcC K (He.ga K "BadTable")) (xc_UnlikeSizes : ExcC K (He.ga K "UnlikeSizes")) (ki_BadPlace_GreatestbackError : PySem.W.kitOne K (.ref (He.ga K "BadPlace")) (.ref (He.ga K "GreatestbackError")) = some true) (ki_BadTable_GreatestbackError : PySem.W.kitOne K (.ref (He.ga K "BadTable")) (.ref (He.ga K "GreatestbackError")) = some true) (ki_UnlikeSizes_GreatestbackError : PySem.W.kitOne K (.ref (He.ga K "UnlikeSizes")) (.ref (He.ga K "GreatestbackError")) = some true) (kb_BadPlace : PySem.W.kitOne K (.ref (He.ga K "BadPlace")) (.type "ValueError") = some true) (kb_BadTable : PySem.W.kitOne K (.ref (He.ga K "BadTable")) (.type "ValueError") = some true) (kb_UnlikeSizes : PySem.W.kitOne K (.ref (He.ga K "UnlikeSizes")) (.type "ValueError") = some true) (ka_BadPlace_BadPlace_BadLot_NoName_NoFit_NotSquare : PySem.W.kitAny K (.ref (He.ga K "BadPlace")) [.ref (He.ga K "BadPlace"), .ref (He.ga K "BadLot"), .ref (He.ga K "NoName"), .ref (He.ga K "NoFit"), .ref (He.ga K "NotSquare")] = some true) (ka_BadPlace_BadText_BadName_BadEdit_BadTable_BadPaper : PySem.W.kitAny K (.ref (He.ga K "BadPlace")) [.ref (He.ga K "BadText"), .ref (He.ga K "BadName"), .ref (He.ga K "BadEdit"), .ref (He.ga K "BadTable"), .ref (He.ga K "BadPaper")] = some false) (ka_BadPlace_NotOrder_NotJoined_NotRectangular_TooMany_NoWayBack : PySem.W.kitAny K (.ref (He.ga K "BadPlace")) [.ref (He.ga K "NotOrder"), .ref (He.ga K "NotJoined"), .ref (He.ga K "NotRectangular"), .ref (He.ga K "TooMany"), .ref (He.ga K "NoWayBack")] = some false) (ka_BadTable_BadPlace_BadLot_NoName_NoFit_NotSquare : PySem.W.kitAny K (.ref (He.ga K "BadTable")) [.ref (He.ga K "BadPlace"), .ref (He.ga K "BadLot"), .ref (He.ga K "NoName"), .ref (He.ga K "NoFit"), .ref (He.ga K "NotSquare")] = some false) (ka_BadTable_BadText_BadName_BadEdit_BadTable_BadPaper : PySem.W.kitAny K (.ref (He.ga K "BadTable")) [.ref (He.ga K "BadText"), .ref (He.ga K "BadName"), .ref (He.ga K "BadEdit"), .ref (He.ga K "BadTable"), .ref (He.ga K "BadPaper")] = some true) (ka_BadTable_NotOrder_NotJoined_NotRectangular_TooMany_NoWayBack : PySem.W.kitAny K (.ref (He.ga K "BadTable")) [.ref (He.ga K "NotOrder"), .ref (He.ga K "NotJoined"), .ref (He.ga K "NotRectangular"), .ref (He.ga K "TooMany"), .ref (He.ga K "NoWayBack")] = some false) (ka_UnlikeSizes_BadPlace_BadLot_NoName_NoFit_NotSquare : PySem.W.kitAny K (.ref (He.ga K "UnlikeSizes")) [.ref (He.ga K "BadPlace"), .ref (He.ga K "BadLot"), .ref (He.ga K "NoName"), .ref (He.ga K "NoFit"), .ref (He.ga K "NotSquare")] = some false) (ka_UnlikeSizes_BadText_BadName_BadEdit_BadTable_BadPaper : PySem.W.kitAny K (.ref (He.ga K "UnlikeSizes")) [.ref (He.ga K "BadText"), .ref (He.ga K "BadName"), .ref (He.ga K "BadEdit"), .ref (He.ga K "BadTable"), .ref (He.ga K "BadPaper")] = some false) (ka_UnlikeSizes_NotOrder_NotJoined_NotRectangular_TooMany_NoWayBack : PySem.W.kitAny K (.ref (He.ga K "UnlikeSizes")) [.ref (He.ga K "NotOrder"), .ref (He.ga K "NotJoined"), .ref (He.ga K "NotRectangular"), .ref (He.ga K "TooMany"), .ref (He.ga K "NoWayBack")] = some false) (g_BadEdit : mg "BadEdit" = some (.ref (He.ga K "BadEdit"))) (g_BadLot : mg "BadLot" = some (.ref (He.ga K "BadLot"))) (g_BadName : mg "BadName" = some (.ref (He.ga K "BadName"))) (g_BadPaper : mg "BadPaper" = some (.ref (He.ga K "BadPaper"))) (g_BadPlace : mg "BadPlace" = some (.ref (He.ga K "BadPlace"))) (g_BadTable : mg "BadTable" = some (.ref (He.ga K "BadTable"))) (g_BadText : mg "BadText" = some (.ref (He.ga K "BadText"))) (g_GreatestbackError : mg "GreatestbackError" = some (.ref (He.ga K "GreatestbackError"))) (g_NoFit : mg "NoFit" = some (.ref (He.ga K "NoFit"))) (g_NoName : mg "NoName" = some (.ref (He.ga K "NoName"))) (g_NoWayBack : mg "NoWayBack" = some (.ref (He.ga K "NoWayBack"))) (g_NotJoined : mg "NotJoined" = some (.ref (He.ga K "NotJoined"))) (g_NotOrder : mg "NotOrder" = some (.ref (He.ga K "NotOrder"))) (g_NotRectangular : mg "NotRectangular" = some (.ref (He.ga K "NotRectangular"))) (g_NotSquare : mg "NotSquare" = some (.ref (He.ga K "NotSquare"))) (g_TooMany : mg "TooMany" = some (.ref (He.ga K "TooMany"))) (n_ValueError : mg "ValueError" = none) (n_isinstance : mg "isinstance" = none) :
    Cal P w K mg base 1 "_law_lone" (defArgs s__law_lone) (defBody s__law_lone) (defScope s__law_lone) ["e"] den__law_lone := by
  refine ⟨f, fd, gf, F, F.bindsN fun _ _ _ _ _ _ us hl => match us, hl with | [_], _ => rfl, fn_den (N := N__law_lone) F sc__law_lone fun cdv A outer s H E hr => ?_⟩
  have hN : N__law_lone.Nodup := sc__law_lone.nd
  have hp : PassesOwn (model P w) _ _ _ := passes_of (X := cxOf (L2N.CX P w) P w K mg base N__law_lone "_law_lone" (defScope s__law_lone) f cdv A outer s H E) rfl
  have tk : Den.Takes (cxOf (L2N.CX P w) P w K mg base N__law_lone "_law_lone" (defScope s__law_lone) f cdv A outer s H E) (wE E) := L2N.takes_of rfl rfl rfl rfl
  exact (ss_cons (sLet 1 [] hN (xIsxT (tab := [("BadPlace", false), ("BadTable", true), ("UnlikeSizes", false)]) (fa_cons ⟨xc_BadPlace, ka_BadPlace_BadText_BadName_BadEdit_BadTable_BadPaper⟩ (fa_cons ⟨xc_BadTable, ka_BadTable_BadText_BadName_BadEdit_BadTable_BadPaper⟩ (fa_cons ⟨xc_UnlikeSizes, ka_UnlikeSizes_BadText_BadName_BadEdit_BadTable_BadPaper⟩ fa_nil))) (xV 0) (pcOwn g_BadText (pcOwn g_BadName (pcOwn g_BadEdit (pcOwn g_BadTable (pcOwn g_BadPaper pcNil))))) (pdOwn (pdOwn (pdOwn (pdOwn (pdOwn pdNil))))) (by show 5 ≤ 1000; omega) n_isinstance)) (ss_cons (sLet 1 [] hN (xOr (xV 1) (xOne (xIsxT (tab := [("BadPlace", true), ("BadTable", false), ("UnlikeSizes", false)]) (fa_cons ⟨xc_BadPlace, ka_BadPlace_BadPlace_BadLot_NoName_NoFit_NotSquare⟩ (fa_cons ⟨xc_BadTable, ka_BadTable_BadPlace_BadLot_NoName_NoFit_NotSquare⟩ (fa_cons ⟨xc_UnlikeSizes, ka_UnlikeSizes_BadPlace_BadLot_NoName_NoFit_NotSquare⟩ fa_nil))) (xV 0) (pcOwn g_BadPlace (pcOwn g_BadLot (pcOwn g_NoName (pcOwn g_NoFit (pcOwn g_NotSquare pcNil))))) (pdOwn (pdOwn (pdOwn (pdOwn (pdOwn pdNil))))) (by show 5 ≤ 1000; omega) n_isinstance)))) (ss_cons (sLet 1 [] hN (xOr (xV 1) (xOne (xIsxT (tab := [("BadPlace", false), ("BadTable", false), ("UnlikeSizes", false)]) (fa_cons ⟨xc_BadPlace, ka_BadPlace_NotOrder_NotJoined_NotRectangular_TooMany_NoWayBack⟩ (fa_cons ⟨xc_BadTable, ka_BadTable_NotOrder_NotJoined_NotRectangular_TooMany_NoWayBack⟩ (fa_cons ⟨xc_UnlikeSizes, ka_UnlikeSizes_NotOrder_NotJoined_NotRectangular_TooMany_NoWayBack⟩ fa_nil))) (xV 0) (pcOwn g_NotOrder (pcOwn g_NotJoined (pcOwn g_NotRectangular (pcOwn g_TooMany (pcOwn g_NoWayBack pcNil))))) (pdOwn (pdOwn (pdOwn (pdOwn (pdOwn pdNil))))) (by show 5 ≤ 1000; omega) n_isinstance)))) (ss_one (sRet (xAnd (xNot (xV 1)) (xAnd (xIsxO (tab := [("BadPlace", true), ("BadTable", true), ("UnlikeSizes", true)]) (fa_cons ⟨xc_BadPlace, ki_BadPlace_GreatestbackError⟩ (fa_cons ⟨xc_BadTable, ki_BadTable_GreatestbackError⟩ (fa_cons ⟨xc_UnlikeSizes, ki_UnlikeSizes_GreatestbackError⟩ fa_nil))) (xV 0) n_isinstance g_GreatestbackError) (xOne (xIsxV (tab := [("BadPlace", true), ("BadTable", true), ("UnlikeSizes", true)]) (fa_cons ⟨xc_BadPlace, kb_BadPlace⟩ (fa_cons ⟨xc_BadTable, kb_BadTable⟩ (fa_cons ⟨xc_UnlikeSizes, kb_UnlikeSizes⟩ fa_nil))) (xV 0) n_isinstance n_ValueError)))))))))
theorem okX__law_lone {f : Addr} {fd : FuncData} (F : FunD K "_law_lone" "_law_lone" (defArgs s__law_lone) (defBody s__law_lone) (defScope s__law_lone) [] [] f fd) (gf : mg "_law_lone" = some (.ref f)) (xc_BadPlace : ExcC K (He.ga K "BadPlace")) (xc_BadTable : ExcC K (He.ga K "BadTable")) (xc_UnlikeSizes : ExcC K (He.ga K "UnlikeSizes")) (ki_BadPlace_GreatestbackError : PySem.W.kitOne K (.ref (He.ga K "BadPlace")) (.ref (He.ga K "GreatestbackError")) = some true) (ki_BadTable_GreatestbackError : PySem.W.kitOne K (.ref (He.ga K "BadTable")) (.ref (He.ga K "GreatestbackError")) = some true) (ki_UnlikeSizes_GreatestbackError : PySem.W.kitOne K (.ref (He.ga K "UnlikeSizes")) (.ref (He.ga K "GreatestbackError")) = some true) (kb_BadPlace : PySem.W.kitOne K (.ref (He.ga K "BadPlace")) (.type "ValueError") = some true) (kb_BadTable : PySem.W.kitOne K (.ref (He.ga K "BadTable")) (.type "ValueError") = some true) (kb_UnlikeSizes : PySem.W.kitOne K (.ref (He.ga K "UnlikeSizes")) (.type "ValueError") = some true) (ka_BadPlace_BadPlace_BadLot_NoName_NoFit_NotSquare : PySem.W.kitAny K (.ref (He.ga K "BadPlace")) [.ref (He.ga K "BadPlace"), .ref (He.ga K "BadLot"), .ref (He.ga K "NoName"), .ref (He.ga K "NoFit"), .ref (He.ga K "NotSquare")] = some true) (ka_BadPlace_BadText_BadName_BadEdit_BadTable_BadPaper : PySem.W.kitAny K (.ref (He.ga K "BadPlace")) [.ref (He.ga K "BadText"), .ref (He.ga K "BadName"), .ref (He.ga K "BadEdit"), .ref (He.ga K "BadTable"), .ref (He.ga K "BadPaper")] = some false) (ka_BadPlace_NotOrder_NotJoined_NotRectangular_TooMany_NoWayBack : PySem.W.kitAny K (.ref (He.ga K "BadPlace")) [.ref (He.ga K "NotOrder"), .ref (He.ga K "NotJoined"), .ref (He.ga K "NotRectangular"), .ref (He.ga K "TooMany"), .ref (He.ga K "NoWayBack")] = some false) (ka_BadTable_BadPlace_BadLot_NoName_NoFit_NotSquare : PySem.W.kitAny K (.ref (He.ga K "BadTable")) [.ref (He.ga K "BadPlace"), .ref (He.ga K "BadLot"), .ref (He.ga K "NoName"), .ref (He.ga K "NoFit"), .ref (He.ga K "NotSquare")] = some false) (ka_BadTable_BadText_BadName_BadEdit_BadTable_BadPaper : PySem.W.kitAny K (.ref (He.ga K "BadTable")) [.ref (He.ga K "BadText"), .ref (He.ga K "BadName"), .ref (He.ga K "BadEdit"), .ref (He.ga K "BadTable"), .ref (He.ga K "BadPaper")] = some true) (ka_BadTable_NotOrder_NotJoined_NotRectangular_TooMany_NoWayBack : PySem.W.kitAny K (.ref (He.ga K "BadTable")) [.ref (He.ga K "NotOrder"), .ref (He.ga K "NotJoined"), .ref (He.ga K "NotRectangular"), .ref (He.ga K "TooMany"), .ref (He.ga K "NoWayBack")] = some false) (ka_UnlikeSizes_BadPlace_BadLot_NoName_NoFit_NotSquare : PySem.W.kitAny K (.ref (He.ga K "UnlikeSizes")) [.ref (He.ga K "BadPlace"), .ref (He.ga K "BadLot"), .ref (He.ga K "NoName"), .ref (He.ga K "NoFit"), .ref (He.ga K "NotSquare")] = some false) (ka_UnlikeSizes_BadText_BadName_BadEdit_BadTable_BadPaper : PySem.W.kitAny K (.ref (He.ga K "UnlikeSizes")) [.ref (He.ga K "BadText"), .ref (He.ga K "BadName"), .ref (He.ga K "BadEdit"), .ref (He.ga K "BadTable"), .ref (He.ga K "BadPaper")] = some false) (ka_UnlikeSizes_NotOrder_NotJoined_NotRectangular_TooMany_NoWayBack : PySem.W.kitAny K (.ref (He.ga K "UnlikeSizes")) [.ref (He.ga K "NotOrder"), .ref (He.ga K "NotJoined"), .ref (He.ga K "NotRectangular"), .ref (He.ga K "TooMany"), .ref (He.ga K "NoWayBack")] = some false) (g_BadEdit : mg "BadEdit" = some (.ref (He.ga K "BadEdit"))) (g_BadLot : mg "BadLot" = some (.ref (He.ga K "BadLot"))) (g_BadName : mg "BadName" = some (.ref (He.ga K "BadName"))) (g_BadPaper : mg "BadPaper" = some (.ref (He.ga K "BadPaper"))) (g_BadPlace : mg "BadPlace" = some (.ref (He.ga K "BadPlace"))) (g_BadTable : mg "BadTable" = some (.ref (He.ga K "BadTable"))) (g_BadText : mg "BadText" = some (.ref (He.ga K "BadText"))) (g_GreatestbackError : mg "GreatestbackError" = some (.ref (He.ga K "GreatestbackError"))) (g_NoFit : mg "NoFit" = some (.ref (He.ga K "NoFit"))) (g_NoName : mg "NoName" = some (.ref (He.ga K "NoName"))) (g_NoWayBack : mg "NoWayBack" = some (.ref (He.ga K "NoWayBack"))) (g_NotJoined : mg "NotJoined" = some (.ref (He.ga K "NotJoined"))) (g_NotOrder : mg "NotOrder" = some (.ref (He.ga K "NotOrder"))) (g_NotRectangular : mg "NotRectangular" = some (.ref (He.ga K "NotRectangular"))) (g_NotSquare : mg "NotSquare" = some (.ref (He.ga K "NotSquare"))) (g_TooMany : mg "TooMany" = some (.ref (He.ga K "TooMany"))) (n_ValueError : mg "ValueError" = none) (n_isinstance : mg "isinstance" = none) :
    CalX P w K mg base 1 "_law_lone" (defArgs s__law_lone) (defBody s__law_lone) (defScope s__law_lone) ["e"] den__law_lone := by
  refine ⟨f, fd, gf, F, F.bindsN fun _ _ _ _ _ _ us hl => match us, hl with | [_], _ => rfl, fn_denX (N := N__law_lone) F sc__law_lone fun q cdv A outer s H E hd hr => ?_⟩
  have hN : N__law_lone.Nodup := sc__law_lone.nd
  have hp : PassesOwn (model P w) _ _ _ := passes_of (X := (cxX P w K mg base N__law_lone "_law_lone" (defScope s__law_lone) f cdv A outer s H E q)) rfl
  have tk : Den.Takes (cxX P w K mg base N__law_lone "_law_lone" (defScope s__law_lone) f cdv A outer s H E q) (wE E) := L2N.takes_of rfl rfl rfl rfl
  exact (ss_cons (sLet 1 [] hN (xIsxT (tab := [("BadPlace", false), ("BadTable", true), ("UnlikeSizes", false)]) (fa_cons ⟨xc_BadPlace, ka_BadPlace_BadText_BadName_BadEdit_BadTable_BadPaper⟩ (fa_cons ⟨xc_BadTable, ka_BadTable_BadText_BadName_BadEdit_BadTable_BadPaper⟩ (fa_cons ⟨xc_UnlikeSizes, ka_UnlikeSizes_BadText_BadName_BadEdit_BadTable_BadPaper⟩ fa_nil))) (xV 0) (pcOwn g_BadText (pcOwn g_BadName (pcOwn g_BadEdit (pcOwn g_BadTable (pcOwn g_BadPaper pcNil))))) (pdOwn (pdOwn (pdOwn (pdOwn (pdOwn pdNil))))) (by show 5 ≤ 1000; omega) n_isinstance)) (ss_cons (sLet 1 [] hN (xOr (xV 1) (xOne (xIsxT (tab := [("BadPlace", true), ("BadTable", false), ("UnlikeSizes", false)]) (fa_cons ⟨xc_BadPlace, ka_BadPlace_BadPlace_BadLot_NoName_NoFit_NotSquare⟩ (fa_cons ⟨xc_BadTable, ka_BadTable_BadPlace_BadLot_NoName_NoFit_NotSquare⟩ (fa_cons ⟨xc_UnlikeSizes, ka_UnlikeSizes_BadPlace_BadLot_NoName_NoFit_NotSquare⟩ fa_nil))) (xV 0) (pcOwn g_BadPlace (pcOwn g_BadLot (pcOwn g_NoName (pcOwn g_NoFit (pcOwn g_NotSquare pcNil))))) (pdOwn (pdOwn (pdOwn (pdOwn (pdOwn pdNil))))) (by show 5 ≤ 1000; omega) n_isinstance)))) (ss_cons (sLet 1 [] hN (xOr (xV 1) (xOne (xIsxT (tab := [("BadPlace", false), ("BadTable", false), ("UnlikeSizes", false)]) (fa_cons ⟨xc_BadPlace, ka_BadPlace_NotOrder_NotJoined_NotRectangular_TooMany_NoWayBack⟩ (fa_cons ⟨xc_BadTable, ka_BadTable_NotOrder_NotJoined_NotRectangular_TooMany_NoWayBack⟩ (fa_cons ⟨xc_UnlikeSizes, ka_UnlikeSizes_NotOrder_NotJoined_NotRectangular_TooMany_NoWayBack⟩ fa_nil))) (xV 0) (pcOwn g_NotOrder (pcOwn g_NotJoined (pcOwn g_NotRectangular (pcOwn g_TooMany (pcOwn g_NoWayBack pcNil))))) (pdOwn (pdOwn (pdOwn (pdOwn (pdOwn pdNil))))) (by show 5 ≤ 1000; omega) n_isinstance)))) (ss_one (sRet (xAnd (xNot (xV 1)) (xAnd (xIsxO (tab := [("BadPlace", true), ("BadTable", true), ("UnlikeSizes", true)]) (fa_cons ⟨xc_BadPlace, ki_BadPlace_GreatestbackError⟩ (fa_cons ⟨xc_BadTable, ki_BadTable_GreatestbackError⟩ (fa_cons ⟨xc_UnlikeSizes, ki_UnlikeSizes_GreatestbackError⟩ fa_nil))) (xV 0) n_isinstance g_GreatestbackError) (xOne (xIsxV (tab := [("BadPlace", true), ("BadTable", true), ("UnlikeSizes", true)]) (fa_cons ⟨xc_BadPlace, kb_BadPlace⟩ (fa_cons ⟨xc_BadTable, kb_BadTable⟩ (fa_cons ⟨xc_UnlikeSizes, kb_UnlikeSizes⟩ fa_nil))) (xV 0) n_isinstance n_ValueError)))))))))
def N__law_refused : List Str := ["which", "made", "strange", "sizes", "e"]
theorem sc__law_refused : FnScope N__law_refused ["which", "made", "strange", "sizes"] (defScope s__law_refused) := ⟨rfl, rfl, rfl, by decide +kernel, rfl, by decide +kernel, by decide +kernel⟩
def den__law_refused : List D → M D := runF 4 5 (gSeq (gTryAs 4 [("BadPlace", false), ("BadTable", false), ("UnlikeSizes", true)] (gIf (t2 dEq (gVar 0) (fC (.int 0))) (gExp (fL den_back_and_forth (aC (gVar 1) (aC (gVar 2) aN)))) (gIf (t2 dEq (gVar 0) (fC (.int 1))) (gExp (fL den_is_under (aC (gVar 1) (aC (gVar 2) aN)))) (gExp (fL den_leads_back (aC (gVar 1) (aC (gVar 2) aN)))))) (gRet (fAnd (fL (den__law_same 6) (aC (fNew (lDis (aC (gXa ["UnlikeSizes"] "first" (gVar 4)) (aC (gXa ["UnlikeSizes"] "second" (gVar 4)) aN)))) (aC (gVar 3) aN))) (fL den__law_lone (aC (gVar 4) aN))))) (gRet (fC (.bl false))))
theorem ok__law_refused {f : Addr} {fd : FuncData} (F : FunD K "_law_refused" "_law_refused" (defArgs s__law_refused) (defBody s__law_refused) (defScope s__law_refused) [] [] f fd) (gf : mg "_law_refused" = some (.ref f)) (c_back_and_forth : Cal P w K mg base 7 "back_and_forth" (defArgs s_back_and_forth) (defBody s_back_and_forth) (defScope s_back_and_forth) ["table", "other"] den_back_and_forth) (c_is_under : Cal P w K mg base 9 "is_under" (defArgs s_is_under) (defBody s_is_under) (defScope s_is_under) ["table", "other"] den_is_under) (c_leads_back : Cal P w K mg base 8 "leads_back" (defArgs s_leads_back) (defBody s_leads_back) (defScope s_leads_back) ["table", "other"] den_leads_back) (xc_UnlikeSizes : ExcC K (He.ga K "UnlikeSizes")) (em_BadPlace_UnlikeSizes : PySem.W.exmOne K (.ref (He.ga K "BadPlace")) (.ref (He.ga K "UnlikeSizes")) = some false) (em_BadTable_UnlikeSizes : PySem.W.exmOne K (.ref (He.ga K "BadTable")) (.ref (He.ga K "UnlikeSizes")) = some false) (em_UnlikeSizes_UnlikeSizes : PySem.W.exmOne K (.ref (He.ga K "UnlikeSizes")) (.ref (He.ga K "UnlikeSizes")) = some true) (na_UnlikeSizes_first : PySem.W.findIn K (.ref (He.ga K "UnlikeSizes")) "first" = some none) (na_UnlikeSizes_second : PySem.W.findIn K (.ref (He.ga K "UnlikeSizes")) "second" = some none) (g_UnlikeSizes : mg "UnlikeSizes" = some (.ref (He.ga K "UnlikeSizes"))) (cX__law_lone : CalX P w K mg base 1 "_law_lone" (defArgs s__law_lone) (defBody s__law_lone) (defScope s__law_lone) ["e"] den__law_lone) (cX__law_same : CalX P w K mg base 7 "_law_same" (defArgs s__law_same) (defBody s__law_same) (defScope s__law_same) ["value", "due"] (den__law_same 6)) :
    Cal P w K mg base 10 "_law_refused" (defArgs s__law_refused) (defBody s__law_refused) (defScope s__law_refused) ["which", "made", "strange", "sizes"] den__law_refused := by
  refine ⟨f, fd, gf, F, F.bindsN fun _ _ _ _ _ _ us hl => match us, hl with | [_, _, _, _], _ => rfl, fn_den (N := N__law_refused) F sc__law_refused fun cdv A outer s H E hr => ?_⟩
  have hN : N__law_refused.Nodup := sc__law_refused.nd
  have hp : PassesOwn (model P w) _ _ _ := passes_of (X := cxOf (L2N.CX P w) P w K mg base N__law_refused "_law_refused" (defScope s__law_refused) f cdv A outer s H E) rfl
  have tk : Den.Takes (cxOf (L2N.CX P w) P w K mg base N__law_refused "_law_refused" (defScope s__law_refused) f cdv A outer s H E) (wE E) := L2N.takes_of rfl rfl rfl rfl
  exact (ss_cons (sTryAsX 4 (tab := [("BadPlace", false), ("BadTable", false), ("UnlikeSizes", true)]) hr tk hN ⟨rfl, by decide, Or.inl g_UnlikeSizes⟩ (fa_cons em_BadPlace_UnlikeSizes (fa_cons em_BadTable_UnlikeSizes (fa_cons em_UnlikeSizes_UnlikeSizes fa_nil))) (fun _ _ _ tk hp => (ss_one (ss_if (cEq hr (xV 0) xI) (ss_one (sExp (xCall c_back_and_forth tk (hr.mono (by omega)) (aCons (xV 1) (aCons (xV 2) aNil))))) (ss_one (ss_if (cEq hr (xV 0) xI) (ss_one (sExp (xCall c_is_under tk (hr.mono (by omega)) (aCons (xV 1) (aCons (xV 2) aNil))))) (ss_one (sExp (xCall c_leads_back tk (hr.mono (by omega)) (aCons (xV 1) (aCons (xV 2) aNil)))))))))) (fun _ _ _ hd hr => (ss_one (sRet (xAnd (xCallX cX__law_same hd tk0 (hr.mono (by omega)) (aCons (xNew (lLst (aCons (xXa (cs := ["UnlikeSizes"]) (fa_cons ⟨xfc_of xc_UnlikeSizes, na_UnlikeSizes_first⟩ fa_nil) (xV 4)) (aCons (xXa (cs := ["UnlikeSizes"]) (fa_cons ⟨xfc_of xc_UnlikeSizes, na_UnlikeSizes_second⟩ fa_nil) (xV 4)) aNil)))) (aCons (xV 3) aNil))) (xOne (xCallX cX__law_lone hd tk0 (hr.mono (by omega)) (aCons (xV 4) aNil)))))))) (ss_one (sRet xB)))
def N_law : List Str := ["script", "store", "grid", "made", "ways", "way", "sizes", "strange", "which"]
theorem sc_law : FnScope N_law ["script"] (defScope s_law) := ⟨rfl, rfl, rfl, by decide +kernel, rfl, by decide +kernel, by decide +kernel⟩
def first_law : EV → M D := (fL den__law_store (aC (gVar 0) aN))
def rest_law : SV → M Fl := (gSeq (gAsg 2 [] (fL den__law_grid (aC (gVar 1) (aC (fL den__law_side (aC (gVar 1) (aC (fC (.int 6)) aN))) (aC (fL den__law_side (aC (gVar 1) (aC (fC (.int 6)) aN))) aN))))) (gSeq (gAsg 3 [] (fL den__law_table (aC (gVar 2) aN))) (gSeq (gAsg 4 [] (fNew (lDis (aC (fL den__law_cross (aC (gVar 1) (aC (gVar 2) aN))) (aC (fL den__law_cross (aC (gVar 1) (aC (gVar 2) aN))) (aC (fL den__law_cross (aC (gVar 1) (aC (gVar 2) aN))) aN)))))) (gSeq (gFor (iSeq (gVar 4)) (bName 5) (gIf (tNo (tT (fL den__law_right (aC (gVar 3) (aC (gVar 2) (aC (gVar 5) aN)))))) (gRet (fC (.bl false))) (fun ρ => pure (.nx ρ)))) (gSeq (gAsg 6 [] (fL den__law_other_size (aC (gVar 1) (aC (f2 dIx (gVar 2) (fC (.int 2))) (aC (f2 dIx (gVar 2) (fC (.int 1))) aN))))) (gSeq (gAsg 7 [] (fL den__law_table (aC (fL den__law_grid (aC (gVar 1) (aC (f2 dIx (gVar 6) (fC (.int 0))) (aC (f2 dIx (gVar 6) (fC (.int 1))) aN)))) aN))) (gSeq (gFor (iRan 1 (aC (fC (.int 3)) aN)) (bName 8) (gSeq (gIf (tNo (tT (fL den__law_refused (aC (gVar 8) (aC (gVar 3) (aC (gVar 7) (aC (fNew (lDis (aC (fTup (aC (f2 dIx (gVar 2) (fC (.int 1))) (aC (f2 dIx (gVar 2) (fC (.int 2))) aN))) (aC (fTup (aC (f2 dIx (gVar 6) (fC (.int 0))) (aC (f2 dIx (gVar 6) (fC (.int 1))) aN))) aN)))) aN))))))) (gRet (fC (.bl false))) (fun ρ => pure (.nx ρ))) (gIf (tNo (tT (fL den__law_right (aC (gVar 3) (aC (gVar 2) (aC (f2 dIx (gVar 4) (gVar 8)) aN)))))) (gRet (fC (.bl false))) (fun ρ => pure (.nx ρ))))) (gRet (fC (.bl true))))))))))
theorem ok_law {f : Addr} {fd : FuncData} (F : FunD K "law" "law" (defArgs s_law) (defBody s_law) (defScope s_law) [] [] f fd) (c__law_cross : Cal P w K mg base 8 "_law_cross" (defArgs s__law_cross) (defBody s__law_cross) (defScope s__law_cross) ["store", "grid"] den__law_cross) (c__law_grid : Cal P w K mg base 7 "_law_grid" (defArgs s__law_grid) (defBody s__law_grid) (defScope s__law_grid) ["store", "high", "wide"] den__law_grid) (c__law_other_size : Cal P w K mg base 3 "_law_other_size" (defArgs s__law_other_size) (defBody s__law_other_size) (defScope s__law_other_size) ["store", "high", "wide"] den__law_other_size) (c__law_refused : Cal P w K mg base 10 "_law_refused" (defArgs s__law_refused) (defBody s__law_refused) (defScope s__law_refused) ["which", "made", "strange", "sizes"] den__law_refused) (c__law_right : Cal P w K mg base 10 "_law_right" (defArgs s__law_right) (defBody s__law_right) (defScope s__law_right) ["made", "grid", "way"] den__law_right) (c__law_side : Cal P w K mg base 3 "_law_side" (defArgs s__law_side) (defBody s__law_side) (defScope s__law_side) ["store", "most"] den__law_side) (c__law_store : Cal P w K mg base 1 "_law_store" (defArgs s__law_store) (defBody s__law_store) (defScope s__law_store) ["script"] den__law_store) (c__law_table : Cal P w K mg base 6 "_law_table" (defArgs s__law_table) (defBody s__law_table) (defScope s__law_table) ["grid"] den__law_table) (n_range : mg "range" = none) (hst : ∀ (ns : List Int) (m : SM), ns.length ≤ 63 → first_law (ev0 N_law.length ns) m = .ok (.lst (.lst (ns.map .int) :: [0, 0, 0, 0, 314159265358, 0].map .int)) m)
    (hG : ∀ ns : List Int, ns.length ≤ 63 → ∃ m', rest_law (sv0 N_law.length 1 ns) ⟨ns, [0, 0, 0, 0, 314159265358, 0]⟩ = .ok (.rt (.bl true)) m') : FnOk P w K mg base (L2N.CX P w) 11 f fd ["script"] (spLaw K) :=
  fn_law (N := N_law) (k := 10) (i := 1) (G0 := first_law) (G := rest_law) (cs := fun ns => ns) (xs := [0, 0, 0, 0, 314159265358, 0]) F sc_law rfl (by decide) (by decide) (fun cdv A outer s H E hr => by
    have hN : N_law.Nodup := sc_law.nd
    have hp : PassesOwn (model P w) _ _ _ := passes_of (X := cxOf (L2N.CX P w) P w K mg base N_law "law" (defScope s_law) f cdv A outer s H E) rfl
    have tk : Den.Takes (cxOf (L2N.CX P w) P w K mg base N_law "law" (defScope s_law) f cdv A outer s H E) (wE E) := L2N.takes_of rfl rfl rfl rfl
    exact ps_set (i := 1) hN rfl (by first | exact Or.inl rfl | exact Or.inr rfl) (show SE _ (wE E) _ first_law from (xCall c__law_store tk (hr.mono (by omega)) (aCons (xV 0) aNil))).pe)
    (fun cdv A outer s H E hr => by
    have hN : N_law.Nodup := sc_law.nd
    have hp : PassesOwn (model P w) _ _ _ := passes_of (X := cxOf (L2N.CX P w) P w K mg base N_law "law" (defScope s_law) f cdv A outer s H E) rfl
    have tk : Den.Takes (cxOf (L2N.CX P w) P w K mg base N_law "law" (defScope s_law) f cdv A outer s H E) (wE E) := L2N.takes_of rfl rfl rfl rfl
    exact (ss_cons (sLet 2 [] hN (xCall c__law_grid tk (hr.mono (by omega)) (aCons (xV 1) (aCons (xCall c__law_side tk (hr.mono (by omega)) (aCons (xV 1) (aCons xI aNil))) (aCons (xCall c__law_side tk (hr.mono (by omega)) (aCons (xV 1) (aCons xI aNil))) aNil))))) (ss_cons (sLet 3 [] hN (xCall c__law_table tk (hr.mono (by omega)) (aCons (xV 2) aNil))) (ss_cons (sLet 4 [] hN (xNew (lLst (aCons (xCall c__law_cross tk (hr.mono (by omega)) (aCons (xV 1) (aCons (xV 2) aNil))) (aCons (xCall c__law_cross tk (hr.mono (by omega)) (aCons (xV 1) (aCons (xV 2) aNil))) (aCons (xCall c__law_cross tk (hr.mono (by omega)) (aCons (xV 1) (aCons (xV 2) aNil))) aNil)))))) (ss_cons (sFor 5 hN hp rfl (jSeq (xV 4)) (ss_one (ss_if (cNot (cTru (xCall c__law_right tk (hr.mono (by omega)) (aCons (xV 3) (aCons (xV 2) (aCons (xV 5) aNil)))))) (ss_one (sRet xB)) ss_nil))) (ss_cons (sLet 6 [] hN (xCall c__law_other_size tk (hr.mono (by omega)) (aCons (xV 1) (aCons (xIx (xV 2) xI) (aCons (xIx (xV 2) xI) aNil))))) (ss_cons (sLet 7 [] hN (xCall c__law_table tk (hr.mono (by omega)) (aCons (xCall c__law_grid tk (hr.mono (by omega)) (aCons (xV 1) (aCons (xIx (xV 6) xI) (aCons (xIx (xV 6) xI) aNil)))) aNil))) (ss_cons (sFor 8 hN hp rfl (jR1 n_range (aCons xI aNil)) (ss_cons (ss_if (cNot (cTru (xCall c__law_refused tk (hr.mono (by omega)) (aCons (xV 8) (aCons (xV 3) (aCons (xV 7) (aCons (xNew (lLst (aCons (xTup (aCons (xIx (xV 2) xI) (aCons (xIx (xV 2) xI) aNil))) (aCons (xTup (aCons (xIx (xV 6) xI) (aCons (xIx (xV 6) xI) aNil))) aNil)))) aNil))))))) (ss_one (sRet xB)) ss_nil) (ss_one (ss_if (cNot (cTru (xCall c__law_right tk (hr.mono (by omega)) (aCons (xV 3) (aCons (xV 2) (aCons (xIx (xV 4) (xV 8)) aNil)))))) (ss_one (sRet xB)) ss_nil)))) (ss_one (sRet xB)))))))))) hst hG
end
end Hd
set_option Elab.async false
set_option linter.all false
set_option maxRecDepth 100000
set_option maxHeartbeats 4000000
namespace Den
open PySem PySem.Spec PyProof.Rows L2
@[irreducible] def Tri {α : Type} (x : M α) (m : SM) (P : α → SM → Prop) : Prop := match x m with
  | .ok a m' => P a m'
  | _ => False
@[irreducible] def TriF (x : M Fl) (m : SM) (P : Fl → SM → Prop) : Prop := match x m with
  | .ok (.ex _ _ _) _ => False
  | .ok f m' => P f m'
  | _ => False
section
variable {α β : Type} {x : M α} {m : SM} {P Q : α → SM → Prop}
theorem Tri.mono (h : Tri x m Q) (k : ∀ a m', Q a m' → P a m') : Tri x m P := by
  unfold Tri at h ⊢
  cases e : x m with
  | ok a m' => rw [e] at h; exact k a m' h
  | err c fs m' => rw [e] at h; exact h
  | bad => rw [e] at h; exact h
theorem Tri.run (h : Tri x m Q) : ∃ a m', x m = .ok a m' ∧ Q a m' := by
  unfold Tri at h
  cases e : x m with
  | ok a m' => rw [e] at h; exact ⟨a, m', rfl, h⟩
  | err c fs m' => rw [e] at h; exact h.elim
  | bad => rw [e] at h; exact h.elim
theorem Tri.of {a : α} {m' : SM} (h : x m = .ok a m') (q : Q a m') : Tri x m Q := by unfold Tri; rw [h]; exact q
theorem tri_pure {a : α} : Tri (pure a) m P ↔ P a m := by unfold Tri; exact Iff.rfl
theorem tri_bind {f : α → M β} {P : β → SM → Prop} : Tri (x >>= f) m P ↔ Tri x m fun a m' => Tri (f a) m' P := by
  unfold Tri
  rw [bind_run]
  cases x m <;> rfl
theorem tri_bad : Tri (M.bad : M α) m P ↔ False := by unfold Tri; exact Iff.rfl
theorem tri_need {b : Bool} {P : Unit → SM → Prop} : Tri (need b) m P ↔ b = true ∧ P () m := by
  unfold need
  by_cases h : b = true
  · rw [if_pos h, tri_pure]; exact ⟨fun z => ⟨h, z⟩, fun z => z.2⟩
  · rw [if_neg h, tri_bad]; exact ⟨fun z => z.elim, fun z => h z.1⟩
theorem tri_lim {n : Nat} {P : Unit → SM → Prop} : Tri (lim n) m P ↔ n ≤ 16777216 ∧ P () m := by
  unfold lim
  by_cases h : n ≤ 16777216
  · rw [if_pos h, tri_pure]; exact ⟨fun z => ⟨h, z⟩, fun z => z.2⟩
  · rw [if_neg h, tri_bad]; exact ⟨fun z => z.elim, fun z => h z.1⟩
theorem tri_noErr : Tri (noErr x) m P ↔ Tri x m P := by
  unfold Tri noErr
  cases x m <;> rfl
theorem tri_ite {c : Prop} [Decidable c] {x y : M α} : Tri (if c then x else y) m P ↔ if c then Tri x m P else Tri y m P := by
  by_cases h : c
  · rw [if_pos h, if_pos h]
  · rw [if_neg h, if_neg h]
end
section
variable {m : SM} {P : D → SM → Prop} {ρ : EV} {F G J : EV → M D} {A : EV → M (List D)}
theorem tri_fC {d : D} : Tri (fC d ρ) m P ↔ P d m := by unfold Tri; exact Iff.rfl
theorem tri_gVar {i : Nat} : Tri (gVar i ρ) m P ↔ ∃ d, ρ[i]? = some (some d) ∧ P d m := by
  unfold gVar Tri
  cases e : ρ[i]? with
  | none => simp
  | some o =>
    cases o with
    | none => simp
    | some d => simp
theorem tri_f2 {g : D → D → M D} : Tri (f2 g F G ρ) m P ↔ Tri (F ρ) m fun x m => Tri (G ρ) m fun y m => Tri (g x y) m P := by
  unfold f2; rw [tri_bind]; simp only [tri_bind]
theorem tri_f1 {g : D → M D} : Tri (f1 g F ρ) m P ↔ Tri (F ρ) m fun x m => Tri (g x) m P := tri_bind
theorem tri_fL {g : List D → M D} : Tri (fL g A ρ) m P ↔ Tri (A ρ) m fun ds m => Tri (g ds) m P := tri_bind
theorem tri_aN {P : List D → SM → Prop} : Tri (aN ρ) m P ↔ P [] m := by unfold Tri; exact Iff.rfl
theorem tri_aC {P : List D → SM → Prop} : Tri (aC F A ρ) m P ↔ Tri (F ρ) m fun d m => Tri (A ρ) m fun ds m => P (d :: ds) m := by
  unfold aC; simp only [tri_bind, tri_pure]
theorem tri_fTup : Tri (fTup A ρ) m P ↔ Tri (A ρ) m fun ds m => ds.length ≤ 16777216 ∧ P (.tup ds) m := by
  unfold fTup; simp only [tri_bind, tri_lim, tri_pure]
theorem tri_lDis {P : List D → SM → Prop} : Tri (lDis A ρ) m P ↔ Tri (A ρ) m fun ds m => ds.length ≤ 16777216 ∧ P ds m := by
  unfold lDis; simp only [tri_bind, tri_lim, tri_pure]
theorem tri_fNew {L : EV → M (List D)} : Tri (fNew L ρ) m P ↔ Tri (L ρ) m fun ds m => P (.lst ds) m := by
  unfold fNew; simp only [tri_bind, tri_pure]
theorem tri_fNot : Tri (fNot F ρ) m P ↔ Tri (F ρ) m fun x m => Tri (dTru x) m fun b m => P (.bl (!b)) m := by
  unfold fNot; simp only [tri_bind, tri_pure]
theorem tri_fAnd : Tri (fAnd F G ρ) m P ↔ Tri (F ρ) m fun x m => Tri (dTru x) m fun b m => if b = true then Tri (G ρ) m P else P x m := by
  unfold fAnd; simp only [tri_bind, tri_ite, tri_pure]
theorem tri_fOr : Tri (fOr F G ρ) m P ↔ Tri (F ρ) m fun x m => Tri (dTru x) m fun b m => if b = true then P x m else Tri (G ρ) m P := by
  unfold fOr; simp only [tri_bind, tri_ite, tri_pure]
theorem tri_fIf {C : EV → M Bool} : Tri (fIf C F G ρ) m P ↔ Tri (C ρ) m fun b m => if b = true then Tri (F ρ) m P else Tri (G ρ) m P := by
  unfold fIf; simp only [tri_bind, tri_ite]
theorem tri_fCh {g g' : D → D → M D} : Tri (fCh g g' F G J ρ) m P ↔ Tri (F ρ) m fun x m => Tri (G ρ) m fun y m => Tri (g x y) m fun z m => Tri (asB z) m fun k m => if k = true then Tri (J ρ) m fun u m => Tri (g' y u) m P else P (.bl false) m := by
  unfold fCh; simp only [tri_bind, tri_ite, tri_pure]
section
variable {P : Bool → SM → Prop} {C C' : EV → M Bool}
theorem tri_tT : Tri (tT F ρ) m P ↔ Tri (F ρ) m fun x m => Tri (dTru x) m P := tri_bind
theorem tri_t2 {g : D → D → M D} : Tri (t2 g F G ρ) m P ↔ Tri (F ρ) m fun x m => Tri (G ρ) m fun y m => Tri (g x y) m fun z m => Tri (asB z) m P := by
  unfold t2; simp only [tri_bind]
theorem tri_tYes : Tri (tYes ρ) m P ↔ P true m := by unfold Tri; exact Iff.rfl
theorem tri_tNo : Tri (tNo C ρ) m P ↔ Tri (C ρ) m fun b m => P (!b) m := by unfold tNo; simp only [tri_bind, tri_pure]
theorem tri_tAnd : Tri (tAnd C C' ρ) m P ↔ Tri (C ρ) m fun b m => if b = true then Tri (C' ρ) m P else P false m := by unfold tAnd; simp only [tri_bind, tri_ite, tri_pure]
theorem tri_tOr : Tri (tOr C C' ρ) m P ↔ Tri (C ρ) m fun b m => if b = true then P true m else Tri (C' ρ) m P := by unfold tOr; simp only [tri_bind, tri_ite, tri_pure]
theorem tri_asB {b : Bool} : Tri (asB (.bl b)) m P ↔ P b m := by unfold Tri; exact Iff.rfl
theorem tri_truB {b : Bool} : Tri (dTru (.bl b)) m P ↔ P b m := by unfold Tri; exact Iff.rfl
theorem tri_truI {i : Int} : Tri (dTru (.int i)) m P ↔ P (i != 0) m := by unfold Tri; exact Iff.rfl
theorem tri_truL {xs : List D} : Tri (dTru (.lst xs)) m P ↔ P (!xs.isEmpty) m := by unfold Tri; exact Iff.rfl
theorem tri_truT {xs : List D} : Tri (dTru (.tup xs)) m P ↔ P (!xs.isEmpty) m := by unfold Tri; exact Iff.rfl
theorem tri_truN : Tri (dTru .non) m P ↔ P false m := by unfold Tri; exact Iff.rfl
end
section
variable {i j : Int}
theorem tri_ofO {o : Option D} : Tri (ofO o) m P ↔ ∃ d, o = some d ∧ P d m := by
  cases o with
  | none => simp [ofO, Tri]
  | some d => simp [ofO, Tri]
theorem tri_dI {c : Int → Int → Bool} {f : Int → Int → D} : Tri (dI c f (.int i) (.int j)) m P ↔ c i j = true ∧ P (f i j) m := by
  unfold dI; simp only [tri_bind, tri_need, tri_pure]
theorem tri_add : Tri (dAdd (.int i) (.int j)) m P ↔ P (.int (i + j)) m := by unfold Tri; exact Iff.rfl
theorem tri_sub : Tri (dSub (.int i) (.int j)) m P ↔ P (.int (i - j)) m := by unfold dSub; rw [tri_dI]; simp
theorem tri_lt : Tri (dLt (.int i) (.int j)) m P ↔ P (.bl (decide (i < j))) m := by unfold dLt; rw [tri_dI]; simp
theorem tri_le : Tri (dLe (.int i) (.int j)) m P ↔ P (.bl (decide (i ≤ j))) m := by unfold dLe; rw [tri_dI]; simp
theorem tri_gt : Tri (dGt (.int i) (.int j)) m P ↔ P (.bl (decide (j < i))) m := by unfold dGt; rw [tri_dI]; simp
theorem tri_ge : Tri (dGe (.int i) (.int j)) m P ↔ P (.bl (decide (j ≤ i))) m := by unfold dGe; rw [tri_dI]; simp
theorem tri_mod : Tri (dMod (.int i) (.int j)) m P ↔ 0 < j ∧ P (.int (i % j)) m := by unfold dMod; rw [tri_dI]; simp
theorem tri_pow : Tri (dPow (.int i) (.int j)) m P ↔ (0 ≤ j ∧ j ≤ 1000000 ∧ i.natAbs < 2 ^ 64) ∧ P (.int (i ^ j.toNat)) m := by unfold dPow; rw [tri_dI]; simp
theorem tri_mul : Tri (dMul (.int i) (.int j)) m P ↔ ((-(2 ^ 64) < i ∧ i < 2 ^ 64) ∨ (-(2 ^ 64) < j ∧ j < 2 ^ 64)) ∧ P (.int (i * j)) m := by
  unfold dMul; simp only [tri_bind, tri_need, tri_pure, decide_eq_true_eq]
theorem tri_int : Tri (dInt [.int i]) m P ↔ P (.int i) m := by unfold Tri; exact Iff.rfl
theorem tri_len {d : D} : Tri (dLen [d]) m P ↔ ∃ n, dLen1 d = some n ∧ P (.int n) m := by
  unfold dLen; rw [tri_ofO]
  cases e : dLen1 d <;> simp
theorem tri_min : Tri (dMin [.int i, .int j]) m P ↔ P (.int (if j < i then j else i)) m := by unfold Tri; exact Iff.rfl
theorem tri_max : Tri (dMax [.int i, .int j]) m P ↔ P (.int (if j > i then j else i)) m := by unfold Tri; exact Iff.rfl
theorem tri_eqI : Tri (dEq (.int i) (.int j)) m P ↔ P (.bl (decide (i = j))) m := by
  unfold dEq dEqB D.py
  have h : (SeqAt.shaped (PyData.int i) && SeqAt.shaped (PyData.int j)) = true := by simp [SeqAt.shaped, PyData.canLay0, PyData.depth]
  simp only [h, if_true, PyData.eqv]
  unfold Tri; exact Iff.rfl
end
end
section
variable {m : SM} {P : Fl → SM → Prop} {ρ : SV} {G G1 G2 : SV → M Fl}
theorem TriF.mono {x : M Fl} {Q : Fl → SM → Prop} (h : TriF x m Q) (k : ∀ a m', Q a m' → P a m') : TriF x m P := by
  unfold TriF at h ⊢
  cases e : x m with
  | ok a m' =>
    rw [e] at h
    cases a <;> first | exact h | exact k _ m' h
  | err c fs m' => rw [e] at h; exact h
  | bad => rw [e] at h; exact h
theorem triF_exB {α : Type} {x : M α} {f : α → M Fl} : TriF (exB x ρ f) m P ↔ Tri x m fun a m' => TriF (f a) m' P := by
  unfold TriF Tri
  rw [exB_run]
  cases x m <;> rfl
theorem triF_bad {α : Type} {f : α → M Fl} : TriF ((M.bad : M α) >>= f) m P ↔ False := by unfold TriF; exact Iff.rfl
theorem triF_bad0 : TriF (M.bad : M Fl) m P ↔ False := by unfold TriF; exact Iff.rfl
theorem triF_ok {f : Unit → M Fl} : TriF ((pure () : M Unit) >>= f) m P ↔ TriF (f ()) m P := Iff.rfl
theorem triF_need {b : Bool} {f : Unit → M Fl} : TriF (need b >>= f) m P ↔ b = true ∧ TriF (f ()) m P := by
  unfold need
  by_cases h : b = true
  · rw [if_pos h, triF_ok]; exact ⟨fun z => ⟨h, z⟩, fun z => z.2⟩
  · rw [if_neg h, triF_bad]; exact ⟨fun z => z.elim, fun z => h z.1⟩
theorem triF_lim {n : Nat} {f : Unit → M Fl} : TriF (lim n >>= f) m P ↔ n ≤ 16777216 ∧ TriF (f ()) m P := by
  unfold lim
  by_cases h : n ≤ 16777216
  · rw [if_pos h, triF_ok]; exact ⟨fun z => ⟨h, z⟩, fun z => z.2⟩
  · rw [if_neg h, triF_bad]; exact ⟨fun z => z.elim, fun z => h z.1⟩
theorem triF_nx {ρ' : SV} : TriF (pure (.nx ρ')) m P ↔ P (.nx ρ') m := by unfold TriF; exact Iff.rfl
theorem triF_rt {d : D} : TriF (pure (.rt d)) m P ↔ P (.rt d) m := by unfold TriF; exact Iff.rfl
theorem triF_bk {ρ' : SV} : TriF (pure (.bk ρ')) m P ↔ P (.bk ρ') m := by unfold TriF; exact Iff.rfl
theorem triF_ct {ρ' : SV} : TriF (pure (.ct ρ')) m P ↔ P (.ct ρ') m := by unfold TriF; exact Iff.rfl
/-- behind the first: what the second must do -/
def aft (G : SV → M Fl) (P : Fl → SM → Prop) : Fl → SM → Prop
  | .nx ρ', m => TriF (G ρ') m P
  | f, m => P f m
theorem aft_nx {ρ' : SV} : aft G P (.nx ρ') m = TriF (G ρ') m P := rfl
theorem aft_rt {d : D} : aft G P (.rt d) m = P (.rt d) m := rfl
theorem aft_rf {ds : List D} : aft G P (.rf ds) m = P (.rf ds) m := rfl
theorem triF_retO {z : Nat} {ρ : SV} : TriF (gRetO z ρ) m P ↔ ∃ xs, ρ[z]? = some (.ow xs) ∧ P (.rf xs) m := by
  unfold TriF gRetO
  cases e : ρ[z]? with
  | none => simp
  | some s => cases s <;> simp [e]
theorem triF_seq : TriF (gSeq G1 G2 ρ) m P ↔ TriF (G1 ρ) m (aft G2 P) := by
  unfold TriF gSeq
  rw [bind_run]
  cases G1 ρ m with
  | ok f m' =>
    cases f with
    | nx ρ' => simp only [aft]; unfold TriF; rfl
    | _ => simp [aft]
  | err c fs m' => rfl
  | bad => rfl
theorem triF_ite {c : Prop} [Decidable c] {x y : M Fl} : TriF (if c then x else y) m P ↔ if c then TriF x m P else TriF y m P := by
  by_cases h : c
  · rw [if_pos h, if_pos h]
  · rw [if_neg h, if_neg h]
theorem triF_ret {F : EV → M D} : TriF (gRet F ρ) m P ↔ Tri (F (vw (allM ρ) ρ)) m fun d m => P (.rt d) m := by unfold gRet; rw [triF_exB]; simp only [triF_rt]
theorem triF_if {C : EV → M Bool} : TriF (gIf C G1 G2 ρ) m P ↔ Tri (C (vw (allM ρ) ρ)) m fun b m => if b = true then TriF (G1 ρ) m P else TriF (G2 ρ) m P := by unfold gIf; rw [triF_exB]; simp only [triF_ite]
theorem triF_asg {i : Nat} {mk : List Bool} {F : EV → M D} : TriF (gAsg i mk F ρ) m P ↔ Tri (F (vw mk ρ)) m fun d m => (mk.isEmpty || d.flat) = true ∧ P (.nx (ρ.set i (.va d))) m := by unfold gAsg; rw [triF_exB]; simp only [triF_need, triF_nx]
theorem triF_new {i : Nat} {mk : List Bool} {L : EV → M (List D)} : TriF (gNew i mk L ρ) m P ↔ Tri (L (vw mk ρ)) m fun ds m => flatsOk mk ds = true ∧ P (.nx (ρ.set i (.ow ds))) m := by unfold gNew; rw [triF_exB]; simp only [triF_need, triF_nx]
theorem triF_setS {i : Nat} {F Gj : EV → M D} : TriF (gSetS i F Gj ρ) m P ↔ Tri (F (vw [] ρ)) m fun d m => Tri (Gj (vw [] ρ)) m fun j m => isSto i ρ = true ∧ TriF (setSt d j ρ) m P := by
  unfold gSetS; rw [triF_exB]; simp only [triF_exB]
  constructor <;> intro h <;> refine h.mono fun d m h => h.mono fun j m h => ?_
  · by_cases hh : isSto i ρ = true
    · rw [if_pos hh] at h; exact ⟨hh, h⟩
    · rw [if_neg hh, triF_bad0] at h; exact h.elim
  · rw [if_pos h.1]; exact h.2
theorem triF_setSt {z k : Int} : TriF (setSt (.int z) (.int k) ρ) m P ↔ ∃ n, ixN (m.xs.length + 1) k = some (n + 1) ∧ P (.nx ρ) ⟨m.cs, m.xs.set n z⟩ := by
  unfold setSt TriF
  simp only
  cases e : ixN (m.xs.length + 1) k with
  | none => simp
  | some n => cases n <;> simp
def fin (P : D → SM → Prop) : Fl → SM → Prop
  | .rt d, m => P d m
  | .rf ds, m => P (.lst ds) m
  | .nx _, m => P .non m
  | _, _ => False
theorem fin_rt {P : D → SM → Prop} {d : D} : fin P (.rt d) m = P d m := rfl
theorem fin_rf {P : D → SM → Prop} {ds : List D} : fin P (.rf ds) m = P (.lst ds) m := rfl
theorem fin_nx {P : D → SM → Prop} {ρ' : SV} : fin P (.nx ρ') m = P .non m := rfl
theorem tri_runF {P : D → SM → Prop} {p n : Nat} {ds : List D} : Tri (runF p n G ds) m P ↔ ds.length = p ∧ TriF (G (ds.map .va ++ List.replicate (n - p) .no)) m (fin P) := by
  unfold Tri runF
  by_cases h : ds.length = p
  · rw [if_pos h]
    unfold TriF
    cases e : G (ds.map .va ++ List.replicate (n - p) .no) m with
    | ok f m' => cases f <;> simp [fin, h]
    | err c fs m' => simp
    | bad => simp
  · rw [if_neg h]; simp [h]
/-- a loop by an invariant of the turn -/
theorem triF_loop {bnd : D → SV → Option SV} {B : SV → M Fl} (I : Nat → SV → SM → Prop) : ∀ (ds : List D) (k : Nat) (ρ : SV) (m : SM), I k ρ m →
    (∀ j d ρ m, ds[j]? = some d → I (k + j) ρ m → ∃ ρ1, bnd d ρ = some ρ1 ∧ TriF (B ρ1) m fun f m' => match f with | .nx ρ' => I (k + j + 1) ρ' m' | .ct ρ' => I (k + j + 1) ρ' m' | .bk ρ' => P (.nx ρ') m' | f => P f m') →
    (∀ ρ m, I (k + ds.length) ρ m → P (.nx ρ) m) → TriF (loopS bnd B ds ρ) m P
  | [], k, ρ, m, h0, hs, hd => by
    unfold loopS; rw [triF_nx]; exact hd ρ m h0
  | d :: ds, k, ρ, m, h0, hs, hd => by
    obtain ⟨ρ1, h1, h2⟩ := hs 0 d ρ m rfl h0
    unfold loopS
    rw [h1]
    have ih := fun ρ m h => triF_loop I ds (k + 1) ρ m h (fun j d ρ m e i => by
      have := hs (j + 1) d ρ m (by simpa using e) (by rw [show k + (j + 1) = k + 1 + j by omega]; exact i)
      rw [show k + (j + 1) = k + 1 + j by omega] at this
      exact this) (fun ρ m i => hd ρ m (by rw [List.length_cons, show k + (ds.length + 1) = k + 1 + ds.length by omega]; exact i))
    unfold TriF at h2 ih ⊢
    simp only [bind_run]
    cases e : B ρ1 m with
    | ok f m' =>
      rw [e] at h2
      cases f with
      | nx ρ' => exact ih ρ' m' h2
      | ct ρ' => exact ih ρ' m' h2
      | bk ρ' => exact h2
      | rt d => exact h2
      | rf d => exact h2
      | ex c fs ρ' => exact h2.elim
    | err c fs m' => rw [e] at h2; exact h2
    | bad => rw [e] at h2; exact h2
theorem triF_for {bnd : D → SV → Option SV} {B : SV → M Fl} {I : EV → M (List D)} : TriF (gFor I bnd B ρ) m P ↔ Tri (I (vw [] ρ)) m fun ds m => TriF (loopS bnd B ds ρ) m P := by unfold gFor; rw [triF_exB]
end
end Den
set_option Elab.async false
set_option linter.all false
set_option maxRecDepth 100000
set_option maxHeartbeats 4000000
namespace Den
open PySem PySem.Spec PyProof.Rows L2
section
variable {m : SM} {P : D → SM → Prop} {ρ : EV} {F G : EV → M D} {A : EV → M (List D)} {i j : Int}
theorem tri_div : Tri (dDiv (.int i) (.int j)) m P ↔ (0 < j ∧ j < 2 ^ 64) ∧ P (.int (i / j)) m := by unfold dDiv; rw [tri_dI]; simp
theorem tri_ixL {xs : List D} : Tri (dIx (.lst xs) (.int i)) m P ↔ ∃ d, atI xs i = some d ∧ P d m := tri_ofO
theorem tri_ixT {xs : List D} : Tri (dIx (.tup xs) (.int i)) m P ↔ ∃ d, atI xs i = some d ∧ P d m := tri_ofO
theorem tri_ixC {ns : List Int} : Tri (dIx (.scr ns) (.int i)) m P ↔ ∃ d, (atI ns i).map D.int = some d ∧ P d m := tri_ofO
theorem tri_ixS : Tri (dIx .sto (.int i)) m P ↔ ∃ d, atI m.all i = some d ∧ P d m := by
  show Tri (fun m => ofO (atI m.all i) m) m P ↔ _
  rw [← tri_ofO]; unfold Tri; exact Iff.rfl
theorem atI_nat {α : Type} {xs : List α} {n : Nat} : atI xs (n : Int) = xs[n]? := by
  unfold atI ixN
  by_cases h : n < xs.length
  · simp [h]
  · simp [h]
theorem atI_pos {α : Type} {xs : List α} {i : Int} (h : 0 ≤ i) : atI xs i = xs[i.toNat]? := by
  have q := atI_nat (xs := xs) (n := i.toNat)
  rw [show ((i.toNat : Nat) : Int) = i by omega] at q
  exact q
section
variable {P : List D → SM → Prop}
theorem tri_iSeq : Tri (iSeq F ρ) m P ↔ Tri (F ρ) m fun d m => Tri (dIts d) m P := tri_bind
theorem tri_itsL {xs : List D} : Tri (dIts (.lst xs)) m P ↔ P xs m := by unfold Tri; exact Iff.rfl
theorem tri_itsT {xs : List D} : Tri (dIts (.tup xs)) m P ↔ P xs m := by unfold Tri; exact Iff.rfl
theorem tri_itsC {ns : List Int} : Tri (dIts (.scr ns)) m P ↔ P (ns.map .int) m := by unfold Tri; exact Iff.rfl
theorem tri_iRan {n : Nat} : Tri (iRan n A ρ) m P ↔ Tri (A ρ) m fun ds m => ds.length = n ∧ Tri (dRange ds) m P := by
  unfold iRan; simp only [tri_bind, tri_need, decide_eq_true_eq]
theorem tri_range {j : Int} : Tri (dRange [.int j]) m P ↔ (-(2 ^ 62) ≤ j ∧ j < 2 ^ 62) ∧ P ((List.range j.toNat).map fun i => .int (i : Nat)) m := by
  unfold dRange; simp only [tri_bind, tri_need, tri_pure, decide_eq_true_eq]
theorem tri_iG {g : List D → M (List D)} : Tri (iG g A ρ) m P ↔ Tri (A ρ) m fun ds m => Tri (g ds) m P := tri_bind
theorem tri_enum {xs : List D} : Tri (dEnum [.lst xs]) m P ↔ P (enumD xs) m := by unfold Tri; exact Iff.rfl
theorem tri_comp {bnd : D → EV → Option EV} {I : EV → M (List D)} {C : EV → M Bool} {E : EV → M D} : Tri (compV bnd I C E ρ) m P ↔ Tri (I ρ) m fun ds m => ds.length ≤ 16777216 ∧ Tri (compL bnd C E ρ ds) m P := by
  unfold compV; simp only [tri_bind, tri_lim]
theorem tri_bindE {bnd : D → EV → Option EV} {d : D} {P : EV → SM → Prop} : Tri (bindE bnd d ρ) m P ↔ ∃ ρ1, bnd d ρ = some ρ1 ∧ P ρ1 m := by
  unfold bindE
  cases bnd d ρ with
  | none => simp [Tri]
  | some r => simp [Tri]
theorem tri_compL_cons {bnd : D → EV → Option EV} {C : EV → M Bool} {E : EV → M D} {d : D} {ds : List D} : Tri (compL bnd C E ρ (d :: ds)) m P ↔ ∃ ρ1, bnd d ρ = some ρ1 ∧ Tri (C ρ1) m fun b m => if b = true then Tri (E ρ1) m fun y m => Tri (compL bnd C E ρ ds) m fun r m => P (y :: r) m else Tri (compL bnd C E ρ ds) m P := by
  rw [compL]; simp only [tri_bind, tri_bindE, tri_noErr, tri_ite, tri_pure]
/-- each thing gives at most one, all told by f; the store stays -/
theorem tri_compL {bnd : D → EV → Option EV} {C : EV → M Bool} {E : EV → M D} (f : D → Option D) : ∀ (ds : List D) {m : SM} {P : List D → SM → Prop}, (∀ d ∈ ds, ∃ ρ1, bnd d ρ = some ρ1 ∧ Tri (C ρ1) m fun b m' => m' = m ∧ b = (f d).isSome ∧ (b = true → Tri (E ρ1) m fun y m' => m' = m ∧ f d = some y)) → P (ds.filterMap f) m → Tri (compL bnd C E ρ ds) m P
  | [], _, _, _, q => by rw [compL, tri_pure]; exact q
  | d :: ds, m, P, h, q => by
    obtain ⟨ρ1, h1, h2⟩ := h d (by simp)
    rw [tri_compL_cons]
    refine ⟨ρ1, h1, h2.mono fun b m' ⟨em, eb, hb⟩ => ?_⟩
    subst em
    by_cases hh : b = true
    · rw [if_pos hh]
      refine (hb hh).mono fun y m' ⟨em, ey⟩ => ?_
      subst em
      refine tri_compL f ds (fun d hd => h d (by simp [hd])) ?_
      rw [List.filterMap_cons, ey] at q
      exact q
    · rw [if_neg hh]
      refine tri_compL f ds (fun d hd => h d (by simp [hd])) ?_
      have : f d = none := by
        cases e : f d with
        | none => rfl
        | some y => rw [e] at eb; simp at eb; exact absurd eb hh
      rw [List.filterMap_cons, this] at q
      exact q
/-- no test, the store stays -/
theorem tri_compM {bnd : D → EV → Option EV} {E : EV → M D} (f : D → D) (ds : List D) (h : ∀ d ∈ ds, ∃ ρ1, bnd d ρ = some ρ1 ∧ Tri (E ρ1) m fun y m' => m' = m ∧ y = f d) (q : P (ds.map f) m) : Tri (compL bnd tYes E ρ ds) m P := by
  refine tri_compL (fun d => some (f d)) ds (fun d hd => ?_) (by simpa using q)
  obtain ⟨ρ1, h1, h2⟩ := h d hd
  exact ⟨ρ1, h1, tri_tYes.mpr ⟨rfl, rfl, fun _ => h2.mono fun y m' ⟨a, b⟩ => ⟨a, by rw [b]⟩⟩⟩
/-- the store may change: an invariant of it, a relation of what goes in and what comes out -/
theorem tri_compE {bnd : D → EV → Option EV} {C : EV → M Bool} {E : EV → M D} (I : SM → Prop) (Q : D → D → Prop) (all : Bool) : ∀ (ds : List D) {m : SM} {P : List D → SM → Prop}, I m →
    (∀ d ∈ ds, ∀ m, I m → ∃ ρ1, bnd d ρ = some ρ1 ∧ Tri (C ρ1) m fun b m' => if b = true then Tri (E ρ1) m' (fun y m'' => Q d y ∧ I m'') else (all = false ∧ I m')) →
    (∀ ys m', I m' → ys.length ≤ ds.length → (all = true → ys.length = ds.length) → (∀ y ∈ ys, ∃ d ∈ ds, Q d y) → P ys m') → Tri (compL bnd C E ρ ds) m P
  | [], m, P, hI, _, q => by rw [compL, tri_pure]; exact q [] m hI (Nat.le_refl _) (fun _ => rfl) (by simp)
  | d :: ds, m, P, hI, h, q => by
    obtain ⟨ρ1, h1, h2⟩ := h d (by simp) m hI
    rw [tri_compL_cons]
    refine ⟨ρ1, h1, h2.mono fun b m' hb => ?_⟩
    by_cases hh : b = true
    · rw [if_pos hh] at hb ⊢
      refine hb.mono fun y m2 ⟨hq, hI2⟩ => ?_
      refine tri_compE I Q all ds hI2 (fun d hd => h d (by simp [hd])) fun ys m3 hI3 hl ha hm => q _ _ hI3 (by simp; omega) (fun e => by simp [ha e]) fun z hz => ?_
      rcases List.mem_cons.mp hz with e | hz
      · rw [e]; exact ⟨d, by simp, hq⟩
      · obtain ⟨d', a, b⟩ := hm z hz
        exact ⟨d', by simp [a], b⟩
    · rw [if_neg hh] at hb ⊢
      refine tri_compE I Q all ds hb.2 (fun d hd => h d (by simp [hd])) fun ys m3 hI3 hl ha hm => q _ _ hI3 (by simp; omega) (fun e => by rw [hb.1] at e; cases e) fun z hz => ?_
      obtain ⟨d', a, b⟩ := hm z hz
      exact ⟨d', by simp [a], b⟩
end
theorem tri_tupL {xs : List D} : Tri (dTuple [.lst xs]) m P ↔ P (.tup xs) m := by unfold Tri; exact Iff.rfl
theorem tri_tupT {xs : List D} : Tri (dTuple [.tup xs]) m P ↔ P (.tup xs) m := by unfold Tri; exact Iff.rfl
end
end Den
set_option Elab.async false
set_option linter.all false
set_option maxRecDepth 100000
set_option maxHeartbeats 4000000
namespace Hd
open PySem PySem.Spec PyProof.Rows L2 Den
/-- the store's numbers: the place read is no negative one -/
def SI (m : SM) : Prop := ∃ a b c d e f : Int, m.xs = [a, b, c, d, e, f] ∧ 0 ≤ a
def mixO (n t : Int) : Int := (n % 2305843009213693951 * 6364136223846793005 + t * 1442695040888963407) % 2305843009213693951
def mixF (n t : Int) : Int := (mixO n t * mixO n t + 48271 * mixO n t + mixO n t / 1073741824) % 999999999989
theorem mixO_lt (n t : Int) : -18446744073709551616 < mixO n t ∧ mixO n t < 18446744073709551616 := by
  have h1 := Int.emod_nonneg (n % 2305843009213693951 * 6364136223846793005 + t * 1442695040888963407) (b := 2305843009213693951) (by decide)
  have h2 := Int.emod_lt_of_pos (n % 2305843009213693951 * 6364136223846793005 + t * 1442695040888963407) (b := 2305843009213693951) (by decide)
  unfold mixO
  omega
theorem tri_mix {n t : Int} {m : SM} {P : D → SM → Prop} : Tri (den__law_mix [.int n, .int t]) m P ↔ P (.int (mixF n t)) m := by
  unfold den__law_mix
  simp [tri_runF, triF_seq, triF_nx, triF_rt, triF_bk, triF_ct, triF_ret, triF_if, triF_asg, triF_new, triF_setS, triF_setSt, triF_for, aft_nx, aft_rt, aft_rf, fin_rt, fin_rf, triF_retO, fin_nx, tri_fC, tri_gVar, tri_f2, tri_f1, tri_fL, tri_aN, tri_aC, tri_fTup, tri_lDis, tri_fNew, tri_fNot, tri_fAnd, tri_fOr, tri_fIf, tri_fCh, tri_tT, tri_t2, tri_tYes, tri_tNo, tri_tAnd, tri_tOr, tri_asB, tri_truB, tri_truI, tri_truL, tri_truT, tri_truN, tri_add, tri_sub, tri_lt, tri_le, tri_gt, tri_ge, tri_mod, tri_div, tri_pow, tri_mul, tri_int, tri_len, tri_min, tri_max, tri_eqI, tri_ixL, tri_ixT, tri_ixC, tri_ixS, tri_iSeq, tri_itsL, tri_itsT, tri_itsC, tri_iRan, tri_range, tri_iG, tri_enum, tri_comp, tri_tupL, tri_tupT, tri_pure, tri_bind, tri_need, tri_lim, vw, allM, Sl.see, isSto, ixN, atI, SM.all, dLen1]
  exact ⟨fun h => h.2, fun h => ⟨mixO_lt n t, h⟩⟩
theorem take_run (m : SM) (hm : SI m) (k : Int) (hk : k < 2 ^ 64) : Tri (den__law_take [.sto, .int k]) m fun r m' => SI m' ∧ ∃ z : Int, r = .int z ∧ 0 ≤ z ∧ (z < k ∨ z = 0) := by
  obtain ⟨cs, xs⟩ := m
  obtain ⟨a, b, c, d, e, f, h, ha⟩ := hm
  simp only at h
  subst h
  unfold den__law_take
  simp [tri_runF, triF_seq, triF_nx, triF_rt, triF_bk, triF_ct, triF_ret, triF_if, triF_asg, triF_new, triF_setS, triF_setSt, triF_for, aft_nx, aft_rt, aft_rf, fin_rt, fin_rf, triF_retO, fin_nx, tri_fC, tri_gVar, tri_f2, tri_f1, tri_fL, tri_aN, tri_aC, tri_fTup, tri_lDis, tri_fNew, tri_fNot, tri_fAnd, tri_fOr, tri_fIf, tri_fCh, tri_tT, tri_t2, tri_tYes, tri_tNo, tri_tAnd, tri_tOr, tri_asB, tri_truB, tri_truI, tri_truL, tri_truT, tri_truN, tri_add, tri_sub, tri_lt, tri_le, tri_gt, tri_ge, tri_mod, tri_div, tri_pow, tri_mul, tri_int, tri_len, tri_min, tri_max, tri_eqI, tri_ixL, tri_ixT, tri_ixC, tri_ixS, tri_iSeq, tri_itsL, tri_itsT, tri_itsC, tri_iRan, tri_range, tri_iG, tri_enum, tri_comp, tri_tupL, tri_tupT, tri_pure, tri_bind, tri_need, tri_lim, vw, allM, Sl.see, isSto, ixN, atI, SM.all, dLen1]
  simp only [tri_mix]
  simp [tri_runF, triF_seq, triF_nx, triF_rt, triF_bk, triF_ct, triF_ret, triF_if, triF_asg, triF_new, triF_setS, triF_setSt, triF_for, aft_nx, aft_rt, aft_rf, fin_rt, fin_rf, triF_retO, fin_nx, tri_fC, tri_gVar, tri_f2, tri_f1, tri_fL, tri_aN, tri_aC, tri_fTup, tri_lDis, tri_fNew, tri_fNot, tri_fAnd, tri_fOr, tri_fIf, tri_fCh, tri_tT, tri_t2, tri_tYes, tri_tNo, tri_tAnd, tri_tOr, tri_asB, tri_truB, tri_truI, tri_truL, tri_truT, tri_truN, tri_add, tri_sub, tri_lt, tri_le, tri_gt, tri_ge, tri_mod, tri_div, tri_pow, tri_mul, tri_int, tri_len, tri_min, tri_max, tri_eqI, tri_ixL, tri_ixT, tri_ixC, tri_ixS, tri_iSeq, tri_itsL, tri_itsT, tri_itsC, tri_iRan, tri_range, tri_iG, tri_enum, tri_comp, tri_tupL, tri_tupT, tri_pure, tri_bind, tri_need, tri_lim, vw, allM, Sl.see, isSto, ixN, atI, SM.all, dLen1]
  have leaf : ∀ z : Int, 2 ≤ k → 0 ≤ z % k ∧ (z % k < k ∨ z % k = 0) := fun z h => ⟨Int.emod_nonneg _ (by omega), Or.inl (Int.emod_lt_of_pos _ (by omega))⟩
  by_cases h1 : k < 2
  · rw [if_pos h1]; exact ⟨_, _, _, _, _, _, rfl, ha⟩
  rw [if_neg h1]
  have hk' : k < 18446744073709551616 := hk
  have tail : ∀ a b c d e f : Int, 0 ≤ a → (if 0 < b then
          0 < k ∧
            (0 < k ∧ k < 18446744073709551616) ∧
              SI { cs := cs, xs := [a, b / k, c, d, e, f] } ∧ 0 ≤ b % k ∧ (b % k < k ∨ b % k = 0)
        else
          if 0 < d then
            0 < k ∧
              SI { cs := cs, xs := [a, b, c, d - 1, e, f + 1] } ∧
                0 ≤ mixF c (f + 1) / 8 % k ∧ (mixF c (f + 1) / 8 % k < k ∨ mixF c (f + 1) / 8 % k = 0)
          else
            0 < k ∧
              SI { cs := cs, xs := [a, b, c, d, e, f + 1] } ∧
                0 ≤ mixF e (f + 1) / 8 % k ∧ (mixF e (f + 1) / 8 % k < k ∨ mixF e (f + 1) / 8 % k = 0)) := fun a b c d e f ha => by
    split
    · exact ⟨by omega, ⟨by omega, hk'⟩, ⟨_, _, _, _, _, _, rfl, ha⟩, leaf _ (by omega)⟩
    · split
      · exact ⟨by omega, ⟨_, _, _, _, _, _, rfl, ha⟩, leaf _ (by omega)⟩
      · exact ⟨by omega, ⟨_, _, _, _, _, _, rfl, ha⟩, leaf _ (by omega)⟩
  by_cases hb : b < 1
  · rw [if_pos hb]
    by_cases hd : d < 1
    · rw [if_pos hd]
      by_cases hc : a < (cs.length : Int)
      · rw [if_pos hc]
        simp only [if_pos ha, if_pos hc]
        have hlt : a.toNat < cs.length := by omega
        refine ⟨.int cs[a.toNat], by simp [hlt], ?_⟩
        rw [tri_mix]
        simp [tri_runF, triF_seq, triF_nx, triF_rt, triF_bk, triF_ct, triF_ret, triF_if, triF_asg, triF_new, triF_setS, triF_setSt, triF_for, aft_nx, aft_rt, aft_rf, fin_rt, fin_rf, triF_retO, fin_nx, tri_fC, tri_gVar, tri_f2, tri_f1, tri_fL, tri_aN, tri_aC, tri_fTup, tri_lDis, tri_fNew, tri_fNot, tri_fAnd, tri_fOr, tri_fIf, tri_fCh, tri_tT, tri_t2, tri_tYes, tri_tNo, tri_tAnd, tri_tOr, tri_asB, tri_truB, tri_truI, tri_truL, tri_truT, tri_truN, tri_add, tri_sub, tri_lt, tri_le, tri_gt, tri_ge, tri_mod, tri_div, tri_pow, tri_mul, tri_int, tri_len, tri_min, tri_max, tri_eqI, tri_ixL, tri_ixT, tri_ixC, tri_ixS, tri_iSeq, tri_itsL, tri_itsT, tri_itsC, tri_iRan, tri_range, tri_iG, tri_enum, tri_comp, tri_tupL, tri_tupT, tri_pure, tri_bind, tri_need, tri_lim, vw, allM, Sl.see, isSto, ixN, atI, SM.all, dLen1]
        simp only [tri_mix]
        simp [tri_runF, triF_seq, triF_nx, triF_rt, triF_bk, triF_ct, triF_ret, triF_if, triF_asg, triF_new, triF_setS, triF_setSt, triF_for, aft_nx, aft_rt, aft_rf, fin_rt, fin_rf, triF_retO, fin_nx, tri_fC, tri_gVar, tri_f2, tri_f1, tri_fL, tri_aN, tri_aC, tri_fTup, tri_lDis, tri_fNew, tri_fNot, tri_fAnd, tri_fOr, tri_fIf, tri_fCh, tri_tT, tri_t2, tri_tYes, tri_tNo, tri_tAnd, tri_tOr, tri_asB, tri_truB, tri_truI, tri_truL, tri_truT, tri_truN, tri_add, tri_sub, tri_lt, tri_le, tri_gt, tri_ge, tri_mod, tri_div, tri_pow, tri_mul, tri_int, tri_len, tri_min, tri_max, tri_eqI, tri_ixL, tri_ixT, tri_ixC, tri_ixS, tri_iSeq, tri_itsL, tri_itsT, tri_itsC, tri_iRan, tri_range, tri_iG, tri_enum, tri_comp, tri_tupL, tri_tupT, tri_pure, tri_bind, tri_need, tri_lim, vw, allM, Sl.see, isSto, ixN, atI, SM.all, dLen1]
        by_cases h18 : 1000000000000000000 ≤ cs[a.toNat]
        · simp only [h18]
          simp [tri_runF, triF_seq, triF_nx, triF_rt, triF_bk, triF_ct, triF_ret, triF_if, triF_asg, triF_new, triF_setS, triF_setSt, triF_for, aft_nx, aft_rt, aft_rf, fin_rt, fin_rf, triF_retO, fin_nx, tri_fC, tri_gVar, tri_f2, tri_f1, tri_fL, tri_aN, tri_aC, tri_fTup, tri_lDis, tri_fNew, tri_fNot, tri_fAnd, tri_fOr, tri_fIf, tri_fCh, tri_tT, tri_t2, tri_tYes, tri_tNo, tri_tAnd, tri_tOr, tri_asB, tri_truB, tri_truI, tri_truL, tri_truT, tri_truN, tri_add, tri_sub, tri_lt, tri_le, tri_gt, tri_ge, tri_mod, tri_div, tri_pow, tri_mul, tri_int, tri_len, tri_min, tri_max, tri_eqI, tri_ixL, tri_ixT, tri_ixC, tri_ixS, tri_iSeq, tri_itsL, tri_itsT, tri_itsC, tri_iRan, tri_range, tri_iG, tri_enum, tri_comp, tri_tupL, tri_tupT, tri_pure, tri_bind, tri_need, tri_lim, vw, allM, Sl.see, isSto, ixN, atI, SM.all, dLen1]
          have := tail (a + 1) cs[a.toNat] c d (mixF cs[a.toNat] (e + 1)) f (by omega)
          simpa using this
        · simp only [h18]
          simp [tri_runF, triF_seq, triF_nx, triF_rt, triF_bk, triF_ct, triF_ret, triF_if, triF_asg, triF_new, triF_setS, triF_setSt, triF_for, aft_nx, aft_rt, aft_rf, fin_rt, fin_rf, triF_retO, fin_nx, tri_fC, tri_gVar, tri_f2, tri_f1, tri_fL, tri_aN, tri_aC, tri_fTup, tri_lDis, tri_fNew, tri_fNot, tri_fAnd, tri_fOr, tri_fIf, tri_fCh, tri_tT, tri_t2, tri_tYes, tri_tNo, tri_tAnd, tri_tOr, tri_asB, tri_truB, tri_truI, tri_truL, tri_truT, tri_truN, tri_add, tri_sub, tri_lt, tri_le, tri_gt, tri_ge, tri_mod, tri_div, tri_pow, tri_mul, tri_int, tri_len, tri_min, tri_max, tri_eqI, tri_ixL, tri_ixT, tri_ixC, tri_ixS, tri_iSeq, tri_itsL, tri_itsT, tri_itsC, tri_iRan, tri_range, tri_iG, tri_enum, tri_comp, tri_tupL, tri_tupT, tri_pure, tri_bind, tri_need, tri_lim, vw, allM, Sl.see, isSto, ixN, atI, SM.all, dLen1]
          have := tail (a + 1) b cs[a.toNat] 3 (mixF cs[a.toNat] (e + 1)) f (by omega)
          simpa using this
      · rw [if_neg hc]; exact tail a b c d e f ha
    · rw [if_neg hd]; exact tail a b c d e f ha
  · rw [if_neg hb]; exact tail a b c d e f ha
end Hd
set_option Elab.async false
set_option linter.all false
set_option maxRecDepth 100000
set_option maxHeartbeats 4000000
namespace Den
open PySem PySem.Spec PyProof.Rows L2
section
variable {m : SM} {P : D → SM → Prop} {i j : Int}
theorem tri_neI : Tri (dNe (.int i) (.int j)) m P ↔ P (.bl (!decide (i = j))) m := by
  unfold dNe dEqB D.py
  have h : (SeqAt.shaped (PyData.int i) && SeqAt.shaped (PyData.int j)) = true := by simp [SeqAt.shaped, PyData.canLay0, PyData.depth]
  simp only [h, if_true, PyData.eqv]
  unfold Tri; exact Iff.rfl
theorem scal_ints : ∀ ks : List Int, (ks.map D.int).all D.scal = true
  | [] => rfl
  | k :: ks => by rw [List.map_cons, List.all_cons, scal_ints ks]; rfl
theorem any_ints (k : Int) : ∀ ks : List Int, ((ks.map D.int).any fun z => z.eqs (.int k)) = decide (k ∈ ks)
  | [] => rfl
  | z :: ks => by
    rw [List.map_cons, List.any_cons, any_ints k ks]
    show ((z == k) || decide (k ∈ ks)) = _
    by_cases h : z = k
    · simp [h]
    · simp [h, Ne.symm h]
theorem tri_inT {k : Int} {ks : List Int} : Tri (dIn (.int k) (.tup (ks.map .int))) m P ↔ P (.bl (decide (k ∈ ks))) m := by
  unfold dIn dInB D.its
  simp only [scal_ints, D.scal, Bool.and_self, if_true, any_ints]
  unfold Tri; exact Iff.rfl
theorem bools_map : ∀ bs : List Bool, D.bools (bs.map .bl) = some bs
  | [] => rfl
  | b :: bs => by rw [List.map_cons, D.bools, bools_map bs]; rfl
theorem tri_any {bs : List Bool} : Tri (dAny [.lst (bs.map .bl)]) m P ↔ P (.bl (bs.any id)) m := by
  simp only [dAny, bools_map, tri_ofO]; simp
theorem tri_all {bs : List Bool} : Tri (dAll [.lst (bs.map .bl)]) m P ↔ P (.bl (bs.all id)) m := by
  simp only [dAll, bools_map, tri_ofO]; simp
end
section
variable {m : SM} {P : Fl → SM → Prop} {ρ : SV}
theorem triF_app {i : Nat} {mk : List Bool} {F : EV → M D} : TriF (gApp i mk F ρ) m P ↔ ∃ xs, ρ[i]? = some (.ow xs) ∧ Tri (F (vw mk ρ)) m fun d m => (mk.isEmpty || d.flat) = true ∧ xs.length + 1 ≤ 16777216 ∧ P (.nx (ρ.set i (.ow (xs ++ [d])))) m := by
  unfold gApp
  cases e : ρ[i]? with
  | none => simp [TriF]
  | some sl =>
    cases sl with
    | ow xs => simp only [triF_exB, triF_need, triF_lim, triF_nx]; simp
    | _ => simp [TriF]
end
end Den
namespace Hd
open PySem PySem.Spec PyProof.Rows L2 Den
theorem take_at {m : SM} {k : Int} {P : D → SM → Prop} (hm : SI m) (hk : k < 2 ^ 64) (h : ∀ m' z, SI m' → 0 ≤ z → (z < k ∨ z = 0) → P (.int z) m') : Tri (den__law_take [.sto, .int k]) m P :=
  (take_run m hm k hk).mono fun r m' ⟨h1, z, e, h2, h3⟩ => by subst e; exact h m' z h1 h2 h3
theorem between_at {m : SM} {a b : Int} {P : D → SM → Prop} (hm : SI m) (h0 : a ≤ b) (hk : b - a + 1 < 2 ^ 64) (h : ∀ m' z, SI m' → a ≤ z → z ≤ b → P (.int z) m') : Tri (den__law_between [.sto, .int a, .int b]) m P := by
  unfold den__law_between
  simp [tri_runF, triF_seq, triF_nx, triF_rt, triF_bk, triF_ct, triF_ret, triF_if, triF_asg, triF_new, triF_setS, triF_setSt, triF_for, aft_nx, aft_rt, aft_rf, fin_rt, fin_rf, triF_retO, fin_nx, tri_fC, tri_gVar, tri_f2, tri_f1, tri_fL, tri_aN, tri_aC, tri_fTup, tri_lDis, tri_fNew, tri_fNot, tri_fAnd, tri_fOr, tri_fIf, tri_fCh, tri_tT, tri_t2, tri_tYes, tri_tNo, tri_tAnd, tri_tOr, tri_asB, tri_truB, tri_truI, tri_truL, tri_truT, tri_truN, tri_add, tri_sub, tri_lt, tri_le, tri_gt, tri_ge, tri_mod, tri_div, tri_pow, tri_mul, tri_int, tri_len, tri_min, tri_max, tri_eqI, tri_ixL, tri_ixT, tri_ixC, tri_ixS, tri_iSeq, tri_itsL, tri_itsT, tri_itsC, tri_iRan, tri_range, tri_iG, tri_enum, tri_comp, tri_tupL, tri_tupT, tri_pure, tri_bind, tri_need, tri_lim, vw, allM, Sl.see, isSto, ixN, atI, SM.all, dLen1]
  split
  · exact h m a hm (by omega) (by omega)
  · refine take_at hm (by decide) fun m1 z h1 h2 h3 => ?_
    simp [tri_runF, triF_seq, triF_nx, triF_rt, triF_bk, triF_ct, triF_ret, triF_if, triF_asg, triF_new, triF_setS, triF_setSt, triF_for, aft_nx, aft_rt, aft_rf, fin_rt, fin_rf, triF_retO, fin_nx, tri_fC, tri_gVar, tri_f2, tri_f1, tri_fL, tri_aN, tri_aC, tri_fTup, tri_lDis, tri_fNew, tri_fNot, tri_fAnd, tri_fOr, tri_fIf, tri_fCh, tri_tT, tri_t2, tri_tYes, tri_tNo, tri_tAnd, tri_tOr, tri_asB, tri_truB, tri_truI, tri_truL, tri_truT, tri_truN, tri_add, tri_sub, tri_lt, tri_le, tri_gt, tri_ge, tri_mod, tri_div, tri_pow, tri_mul, tri_int, tri_len, tri_min, tri_max, tri_eqI, tri_ixL, tri_ixT, tri_ixC, tri_ixS, tri_iSeq, tri_itsL, tri_itsT, tri_itsC, tri_iRan, tri_range, tri_iG, tri_enum, tri_comp, tri_tupL, tri_tupT, tri_pure, tri_bind, tri_need, tri_lim, vw, allM, Sl.see, isSto, ixN, atI, SM.all, dLen1]
    split
    · exact h m1 a h1 (by omega) (by omega)
    · split
      · exact h m1 b h1 (by omega) (by omega)
      · refine take_at h1 (by omega) fun m2 y h4 h5 h6 => ?_
        simp [tri_runF, triF_seq, triF_nx, triF_rt, triF_bk, triF_ct, triF_ret, triF_if, triF_asg, triF_new, triF_setS, triF_setSt, triF_for, aft_nx, aft_rt, aft_rf, fin_rt, fin_rf, triF_retO, fin_nx, tri_fC, tri_gVar, tri_f2, tri_f1, tri_fL, tri_aN, tri_aC, tri_fTup, tri_lDis, tri_fNew, tri_fNot, tri_fAnd, tri_fOr, tri_fIf, tri_fCh, tri_tT, tri_t2, tri_tYes, tri_tNo, tri_tAnd, tri_tOr, tri_asB, tri_truB, tri_truI, tri_truL, tri_truT, tri_truN, tri_add, tri_sub, tri_lt, tri_le, tri_gt, tri_ge, tri_mod, tri_div, tri_pow, tri_mul, tri_int, tri_len, tri_min, tri_max, tri_eqI, tri_ixL, tri_ixT, tri_ixC, tri_ixS, tri_iSeq, tri_itsL, tri_itsT, tri_itsC, tri_iRan, tri_range, tri_iG, tri_enum, tri_comp, tri_tupL, tri_tupT, tri_pure, tri_bind, tri_need, tri_lim, vw, allM, Sl.see, isSto, ixN, atI, SM.all, dLen1]
        exact h m2 _ h4 (by omega) (by omega)
/-- a lot below w -/
def IsLot (w : Int) (d : D) : Prop := ∃ ks : List Int, d = .tup (ks.map .int) ∧ (∀ k ∈ ks, 0 ≤ k ∧ k < w) ∧ ks.length ≤ 1000
theorem ints_of {p : Int → Prop} : ∀ {ys : List D}, (∀ y ∈ ys, ∃ k : Int, y = .int k ∧ p k) → ∃ ks : List Int, ys = ks.map .int ∧ ∀ k ∈ ks, p k
  | [], _ => ⟨[], rfl, by simp⟩
  | y :: ys, h => by
    obtain ⟨k, e, hk⟩ := h y (by simp)
    obtain ⟨ks, e2, hks⟩ := ints_of (ys := ys) fun z hz => h z (by simp [hz])
    exact ⟨k :: ks, by rw [e, e2]; rfl, fun z hz => (List.mem_cons.mp hz).elim (fun q => by rw [q]; exact hk) (hks z)⟩
theorem lot_of {n : Int} {ys : List D} (hl : ys.length ≤ 1000) (h : ∀ y ∈ ys, ∃ d ∈ (List.range n.toNat).map (fun i => D.int (i : Nat)), y = d) : IsLot n (.tup ys) := by
  obtain ⟨ks, e, hk⟩ := ints_of (p := fun k => 0 ≤ k ∧ k < n) (ys := ys) fun y hy => by
    obtain ⟨d, hd, e⟩ := h y hy
    obtain ⟨i, hi, e2⟩ := List.mem_map.mp hd
    have := List.mem_range.mp hi
    exact ⟨i, by rw [e, e2], by omega, by omega⟩
  exact ⟨ks, by rw [e], hk, by rw [e] at hl; simpa using hl⟩
theorem lot_comp {ρ : EV} {C : EV → M Bool} {n : Int} {j : Nat} {m : SM} {P : List D → SM → Prop} (hm : SI m) (hj : j < ρ.length) (hn : n ≤ 1000) (hC : ∀ (i : Nat) m, SI m → i < n.toNat → Tri (C (ρ.set j (some (.int i)))) m fun _ m' => SI m')
    (h : ∀ ds m', SI m' → IsLot n (.tup ds) → P ds m') : Tri (compL (eName j) C (gVar j) ρ ((List.range n.toNat).map fun i => D.int (i : Nat))) m P := by
  refine tri_compE SI (fun d y => y = d) false _ hm (fun d hd m hm => ?_) fun ys m' h1 hl _ h2 => h ys m' h1 (lot_of (by simp at hl; omega) h2)
  obtain ⟨i, hi, e⟩ := List.mem_map.mp hd
  subst e
  refine ⟨_, rfl, (hC i m hm (List.mem_range.mp hi)).mono fun b m' hb => ?_⟩
  by_cases hh : b = true
  · rw [if_pos hh, tri_gVar]
    exact ⟨_, List.getElem?_set_self hj, rfl, hb⟩
  · rw [if_neg hh]; exact ⟨rfl, hb⟩
theorem lot_run {m : SM} {n : Int} {P : D → SM → Prop} (hm : SI m) (h0 : 0 ≤ n) (hn : n ≤ 1000) (h : ∀ m' d, SI m' → IsLot n d → P d m') : Tri (den__law_lot [.sto, .int n]) m P := by
  unfold den__law_lot
  simp [tri_runF, triF_seq, triF_nx, triF_rt, triF_bk, triF_ct, triF_ret, triF_if, triF_asg, triF_new, triF_setS, triF_setSt, triF_for, aft_nx, aft_rt, aft_rf, fin_rt, fin_rf, triF_retO, fin_nx, tri_fC, tri_gVar, tri_f2, tri_f1, tri_fL, tri_aN, tri_aC, tri_fTup, tri_lDis, tri_fNew, tri_fNot, tri_fAnd, tri_fOr, tri_fIf, tri_fCh, tri_tT, tri_t2, tri_tYes, tri_tNo, tri_tAnd, tri_tOr, tri_asB, tri_truB, tri_truI, tri_truL, tri_truT, tri_truN, tri_add, tri_sub, tri_lt, tri_le, tri_gt, tri_ge, tri_mod, tri_div, tri_pow, tri_mul, tri_int, tri_len, tri_min, tri_max, tri_eqI, tri_ixL, tri_ixT, tri_ixC, tri_ixS, tri_iSeq, tri_itsL, tri_itsT, tri_itsC, tri_iRan, tri_range, tri_iG, tri_enum, tri_comp, tri_tupL, tri_tupT, tri_pure, tri_bind, tri_need, tri_lim, vw, allM, Sl.see, isSto, ixN, atI, SM.all, dLen1]
  refine take_at hm (by decide) fun m1 z h1 h2 h3 => ?_
  simp [tri_runF, triF_seq, triF_nx, triF_rt, triF_bk, triF_ct, triF_ret, triF_if, triF_asg, triF_new, triF_setS, triF_setSt, triF_for, aft_nx, aft_rt, aft_rf, fin_rt, fin_rf, triF_retO, fin_nx, tri_fC, tri_gVar, tri_f2, tri_f1, tri_fL, tri_aN, tri_aC, tri_fTup, tri_lDis, tri_fNew, tri_fNot, tri_fAnd, tri_fOr, tri_fIf, tri_fCh, tri_tT, tri_t2, tri_tYes, tri_tNo, tri_tAnd, tri_tOr, tri_asB, tri_truB, tri_truI, tri_truL, tri_truT, tri_truN, tri_add, tri_sub, tri_lt, tri_le, tri_gt, tri_ge, tri_mod, tri_div, tri_pow, tri_mul, tri_int, tri_len, tri_min, tri_max, tri_eqI, tri_ixL, tri_ixT, tri_ixC, tri_ixS, tri_iSeq, tri_itsL, tri_itsT, tri_itsC, tri_iRan, tri_range, tri_iG, tri_enum, tri_comp, tri_tupL, tri_tupT, tri_pure, tri_bind, tri_need, tri_lim, vw, allM, Sl.see, isSto, ixN, atI, SM.all, dLen1]
  split
  · exact h m1 _ h1 ⟨[], rfl, by simp, by simp⟩
  split
  · refine ⟨by omega, by omega, lot_comp h1 (by simp) hn ?_ ?_⟩
    · intro i m hm hi; simp [tri_runF, triF_seq, triF_nx, triF_rt, triF_bk, triF_ct, triF_ret, triF_if, triF_asg, triF_new, triF_setS, triF_setSt, triF_for, aft_nx, aft_rt, aft_rf, fin_rt, fin_rf, triF_retO, fin_nx, tri_fC, tri_gVar, tri_f2, tri_f1, tri_fL, tri_aN, tri_aC, tri_fTup, tri_lDis, tri_fNew, tri_fNot, tri_fAnd, tri_fOr, tri_fIf, tri_fCh, tri_tT, tri_t2, tri_tYes, tri_tNo, tri_tAnd, tri_tOr, tri_asB, tri_truB, tri_truI, tri_truL, tri_truT, tri_truN, tri_add, tri_sub, tri_lt, tri_le, tri_gt, tri_ge, tri_mod, tri_div, tri_pow, tri_mul, tri_int, tri_len, tri_min, tri_max, tri_eqI, tri_ixL, tri_ixT, tri_ixC, tri_ixS, tri_iSeq, tri_itsL, tri_itsT, tri_itsC, tri_iRan, tri_range, tri_iG, tri_enum, tri_comp, tri_tupL, tri_tupT, tri_pure, tri_bind, tri_need, tri_lim, vw, allM, Sl.see, isSto, ixN, atI, SM.all, dLen1]; exact hm
    · exact fun ds m' q1 q2 => h m' _ q1 q2
  have rest : ∀ (m : SM) (z d : Int), SI m → (if z = 2 then
          (-4611686018427387904 ≤ n ∧ n < 4611686018427387904) ∧
            n ≤ 16777216 ∧
              Tri
                (compL (eName 4) (t2 dEq (gVar 4) (gVar 3)) (gVar 4)
                  [some D.sto, some (D.int n), some (D.int z), some (D.int d), none]
                  (List.map (fun i : Nat => D.int (i : Int)) (List.range n.toNat)))
                m fun ds m => P (D.tup ds) m
        else
          if z = 3 then
            (-4611686018427387904 ≤ n ∧ n < 4611686018427387904) ∧
              n ≤ 16777216 ∧
                Tri
                  (compL (eName 4) (t2 dNe (gVar 4) (gVar 3)) (gVar 4)
                    [some D.sto, some (D.int n), some (D.int z), some (D.int d), none]
                    (List.map (fun i : Nat => D.int (i : Int)) (List.range n.toNat)))
                  m fun ds m => P (D.tup ds) m
          else
            (-4611686018427387904 ≤ n ∧ n < 4611686018427387904) ∧
              n ≤ 16777216 ∧
                Tri
                  (compL (eName 4) (t2 dEq (fL den__law_take (aC (gVar 0) (aC (fC (D.int 2)) aN))) (fC (D.int 1)))
                    (gVar 4) [some D.sto, some (D.int n), some (D.int z), some (D.int d), none]
                    (List.map (fun i : Nat => D.int (i : Int)) (List.range n.toNat)))
                  m fun ds m => P (D.tup ds) m) := fun m z d hm => by
    split
    · refine ⟨by omega, by omega, lot_comp hm (by simp) hn ?_ ?_⟩
      · intro i m hm hi; simp [tri_runF, triF_seq, triF_nx, triF_rt, triF_bk, triF_ct, triF_ret, triF_if, triF_asg, triF_new, triF_setS, triF_setSt, triF_for, aft_nx, aft_rt, aft_rf, fin_rt, fin_rf, triF_retO, fin_nx, tri_fC, tri_gVar, tri_f2, tri_f1, tri_fL, tri_aN, tri_aC, tri_fTup, tri_lDis, tri_fNew, tri_fNot, tri_fAnd, tri_fOr, tri_fIf, tri_fCh, tri_tT, tri_t2, tri_tYes, tri_tNo, tri_tAnd, tri_tOr, tri_asB, tri_truB, tri_truI, tri_truL, tri_truT, tri_truN, tri_add, tri_sub, tri_lt, tri_le, tri_gt, tri_ge, tri_mod, tri_div, tri_pow, tri_mul, tri_int, tri_len, tri_min, tri_max, tri_eqI, tri_ixL, tri_ixT, tri_ixC, tri_ixS, tri_iSeq, tri_itsL, tri_itsT, tri_itsC, tri_iRan, tri_range, tri_iG, tri_enum, tri_comp, tri_tupL, tri_tupT, tri_pure, tri_bind, tri_need, tri_lim, vw, allM, Sl.see, isSto, ixN, atI, SM.all, dLen1]; exact hm
      · exact fun ds m' q1 q2 => h m' _ q1 q2
    split
    · refine ⟨by omega, by omega, lot_comp hm (by simp) hn ?_ ?_⟩
      · intro i m hm hi; simp [tri_runF, triF_seq, triF_nx, triF_rt, triF_bk, triF_ct, triF_ret, triF_if, triF_asg, triF_new, triF_setS, triF_setSt, triF_for, aft_nx, aft_rt, aft_rf, fin_rt, fin_rf, triF_retO, fin_nx, tri_fC, tri_gVar, tri_f2, tri_f1, tri_fL, tri_aN, tri_aC, tri_fTup, tri_lDis, tri_fNew, tri_fNot, tri_fAnd, tri_fOr, tri_fIf, tri_fCh, tri_tT, tri_t2, tri_tYes, tri_tNo, tri_tAnd, tri_tOr, tri_asB, tri_truB, tri_truI, tri_truL, tri_truT, tri_truN, tri_add, tri_sub, tri_lt, tri_le, tri_gt, tri_ge, tri_mod, tri_div, tri_pow, tri_mul, tri_int, tri_len, tri_min, tri_max, tri_eqI, tri_ixL, tri_ixT, tri_ixC, tri_ixS, tri_iSeq, tri_itsL, tri_itsT, tri_itsC, tri_iRan, tri_range, tri_iG, tri_enum, tri_comp, tri_tupL, tri_tupT, tri_pure, tri_bind, tri_need, tri_lim, vw, allM, Sl.see, isSto, ixN, atI, SM.all, dLen1]; simp only [tri_neI]; simp [tri_runF, triF_seq, triF_nx, triF_rt, triF_bk, triF_ct, triF_ret, triF_if, triF_asg, triF_new, triF_setS, triF_setSt, triF_for, aft_nx, aft_rt, aft_rf, fin_rt, fin_rf, triF_retO, fin_nx, tri_fC, tri_gVar, tri_f2, tri_f1, tri_fL, tri_aN, tri_aC, tri_fTup, tri_lDis, tri_fNew, tri_fNot, tri_fAnd, tri_fOr, tri_fIf, tri_fCh, tri_tT, tri_t2, tri_tYes, tri_tNo, tri_tAnd, tri_tOr, tri_asB, tri_truB, tri_truI, tri_truL, tri_truT, tri_truN, tri_add, tri_sub, tri_lt, tri_le, tri_gt, tri_ge, tri_mod, tri_div, tri_pow, tri_mul, tri_int, tri_len, tri_min, tri_max, tri_eqI, tri_ixL, tri_ixT, tri_ixC, tri_ixS, tri_iSeq, tri_itsL, tri_itsT, tri_itsC, tri_iRan, tri_range, tri_iG, tri_enum, tri_comp, tri_tupL, tri_tupT, tri_pure, tri_bind, tri_need, tri_lim, vw, allM, Sl.see, isSto, ixN, atI, SM.all, dLen1]; exact hm
      · exact fun ds m' q1 q2 => h m' _ q1 q2
    · refine ⟨by omega, by omega, lot_comp hm (by simp) hn ?_ ?_⟩
      · intro i m hm hi; simp [tri_runF, triF_seq, triF_nx, triF_rt, triF_bk, triF_ct, triF_ret, triF_if, triF_asg, triF_new, triF_setS, triF_setSt, triF_for, aft_nx, aft_rt, aft_rf, fin_rt, fin_rf, triF_retO, fin_nx, tri_fC, tri_gVar, tri_f2, tri_f1, tri_fL, tri_aN, tri_aC, tri_fTup, tri_lDis, tri_fNew, tri_fNot, tri_fAnd, tri_fOr, tri_fIf, tri_fCh, tri_tT, tri_t2, tri_tYes, tri_tNo, tri_tAnd, tri_tOr, tri_asB, tri_truB, tri_truI, tri_truL, tri_truT, tri_truN, tri_add, tri_sub, tri_lt, tri_le, tri_gt, tri_ge, tri_mod, tri_div, tri_pow, tri_mul, tri_int, tri_len, tri_min, tri_max, tri_eqI, tri_ixL, tri_ixT, tri_ixC, tri_ixS, tri_iSeq, tri_itsL, tri_itsT, tri_itsC, tri_iRan, tri_range, tri_iG, tri_enum, tri_comp, tri_tupL, tri_tupT, tri_pure, tri_bind, tri_need, tri_lim, vw, allM, Sl.see, isSto, ixN, atI, SM.all, dLen1]
        refine take_at hm (by decide) fun m2 y g1 g2 g3 => ?_
        simp [tri_runF, triF_seq, triF_nx, triF_rt, triF_bk, triF_ct, triF_ret, triF_if, triF_asg, triF_new, triF_setS, triF_setSt, triF_for, aft_nx, aft_rt, aft_rf, fin_rt, fin_rf, triF_retO, fin_nx, tri_fC, tri_gVar, tri_f2, tri_f1, tri_fL, tri_aN, tri_aC, tri_fTup, tri_lDis, tri_fNew, tri_fNot, tri_fAnd, tri_fOr, tri_fIf, tri_fCh, tri_tT, tri_t2, tri_tYes, tri_tNo, tri_tAnd, tri_tOr, tri_asB, tri_truB, tri_truI, tri_truL, tri_truT, tri_truN, tri_add, tri_sub, tri_lt, tri_le, tri_gt, tri_ge, tri_mod, tri_div, tri_pow, tri_mul, tri_int, tri_len, tri_min, tri_max, tri_eqI, tri_ixL, tri_ixT, tri_ixC, tri_ixS, tri_iSeq, tri_itsL, tri_itsT, tri_itsC, tri_iRan, tri_range, tri_iG, tri_enum, tri_comp, tri_tupL, tri_tupT, tri_pure, tri_bind, tri_need, tri_lim, vw, allM, Sl.see, isSto, ixN, atI, SM.all, dLen1]; exact g1
      · exact fun ds m' q1 q2 => h m' _ q1 q2
  split
  · exact take_at h1 (by omega) fun m2 y g1 g2 g3 => rest m2 z y g1
  · exact rest m1 z 0 h1
end Hd
set_option Elab.async false
set_option linter.all false
set_option maxRecDepth 100000
set_option maxHeartbeats 4000000
namespace Hd
open PySem PySem.Spec PyProof.Rows L2 Den
/-- a grid, by its rows -/
def gridD (h w : Nat) (rows : List (List Bool)) : D := .tup [.str "table", .int h, .int w, .tup (rows.map fun r => .tup (r.map .bl))]
structure IsGrid (h w : Nat) (d : D) : Prop where
  ex : ∃ rows : List (List Bool), rows.length = h ∧ (∀ r ∈ rows, r.length = w) ∧ d = gridD h w rows
def toI : D → Option Int
  | .int i => some i
  | _ => none
def intsOf : D → List Int
  | .tup xs => xs.filterMap toI
  | _ => []
theorem intsOf_tup (ks : List Int) : intsOf (.tup (ks.map .int)) = ks := by
  show (ks.map D.int).filterMap toI = ks
  induction ks with
  | nil => rfl
  | cons k ks ih => rw [List.map_cons, List.filterMap_cons]; show k :: _ = _; rw [ih]
def rowOf (w : Nat) (d : D) : List Bool := (List.range w).map fun i : Nat => decide ((i : Int) ∈ intsOf d)
theorem tri_inL {k : Int} {d : D} {m : SM} {P : D → SM → Prop} (h : d = .tup ((intsOf d).map .int)) : Tri (dIn (.int k) d) m P ↔ P (.bl (decide (k ∈ intsOf d))) m := by
  have q := tri_inT (k := k) (ks := intsOf d) (m := m) (P := P)
  rw [← h] at q
  exact q
theorem IsLot.its {w : Int} {d : D} (h : IsLot w d) : d = .tup ((intsOf d).map .int) := by
  obtain ⟨ks, e, _, _⟩ := h
  rw [e, intsOf_tup]
theorem of_run {m : SM} {L : List D} {w : Nat} {P : D → SM → Prop} (hL : ∀ d ∈ L, d = .tup ((intsOf d).map .int)) (hl : L.length ≤ 1000) (hw : w ≤ 1000) (h : P (gridD L.length w (L.map (rowOf w))) m) : Tri (den__law_of [.lst L, .int w]) m P := by
  unfold den__law_of
  simp [tri_runF, triF_seq, triF_nx, triF_rt, triF_bk, triF_ct, triF_ret, triF_if, triF_asg, triF_new, triF_setS, triF_setSt, triF_for, aft_nx, aft_rt, aft_rf, fin_rt, fin_rf, triF_retO, fin_nx, tri_fC, tri_gVar, tri_f2, tri_f1, tri_fL, tri_aN, tri_aC, tri_fTup, tri_lDis, tri_fNew, tri_fNot, tri_fAnd, tri_fOr, tri_fIf, tri_fCh, tri_tT, tri_t2, tri_tYes, tri_tNo, tri_tAnd, tri_tOr, tri_asB, tri_truB, tri_truI, tri_truL, tri_truT, tri_truN, tri_add, tri_sub, tri_lt, tri_le, tri_gt, tri_ge, tri_mod, tri_div, tri_pow, tri_mul, tri_int, tri_len, tri_min, tri_max, tri_eqI, tri_ixL, tri_ixT, tri_ixC, tri_ixS, tri_iSeq, tri_itsL, tri_itsT, tri_itsC, tri_iRan, tri_range, tri_iG, tri_enum, tri_comp, tri_tupL, tri_tupT, tri_pure, tri_bind, tri_need, tri_lim, vw, allM, Sl.see, isSto, ixN, atI, SM.all, dLen1]
  refine ⟨rfl, ?_⟩
  refine triF_loop (fun j ρ m' => m' = m ∧ ∃ s3 s4, ρ = [.va (.lst L), .va (.int w), .ow ((L.take j).map fun d => .tup ((rowOf w d).map .bl)), s3, s4]) L 0 _ m ⟨rfl, _, _, rfl⟩ (fun j d ρ m' hd hI => ?_) (fun ρ m' hI => ?_)
  · obtain ⟨e, s3, s4, eρ⟩ := hI
    subst e eρ
    have hj : j < L.length := by
      by_cases hh : j < L.length
      · exact hh
      · rw [List.getElem?_eq_none (by omega)] at hd; cases hd
    have ek := hL d (List.mem_of_getElem? hd)
    refine ⟨_, rfl, ?_⟩
    rw [triF_app]
    refine ⟨_, rfl, ?_⟩
    simp [tri_runF, triF_seq, triF_nx, triF_rt, triF_bk, triF_ct, triF_ret, triF_if, triF_asg, triF_new, triF_setS, triF_setSt, triF_for, aft_nx, aft_rt, aft_rf, fin_rt, fin_rf, triF_retO, fin_nx, tri_fC, tri_gVar, tri_f2, tri_f1, tri_fL, tri_aN, tri_aC, tri_fTup, tri_lDis, tri_fNew, tri_fNot, tri_fAnd, tri_fOr, tri_fIf, tri_fCh, tri_tT, tri_t2, tri_tYes, tri_tNo, tri_tAnd, tri_tOr, tri_asB, tri_truB, tri_truI, tri_truL, tri_truT, tri_truN, tri_add, tri_sub, tri_lt, tri_le, tri_gt, tri_ge, tri_mod, tri_div, tri_pow, tri_mul, tri_int, tri_len, tri_min, tri_max, tri_eqI, tri_ixL, tri_ixT, tri_ixC, tri_ixS, tri_iSeq, tri_itsL, tri_itsT, tri_itsC, tri_iRan, tri_range, tri_iG, tri_enum, tri_comp, tri_tupL, tri_tupT, tri_pure, tri_bind, tri_need, tri_lim, vw, allM, Sl.see, isSto, ixN, atI, SM.all, dLen1]
    refine ⟨by omega, by omega, ?_⟩
    refine tri_compM (fun d' => match d' with | .int k => .bl (decide (k ∈ intsOf d)) | _ => .non) _ (fun d' hd' => ?_) ?_
    · obtain ⟨i, hi, e⟩ := List.mem_map.mp hd'
      subst e
      refine ⟨_, rfl, ?_⟩
      simp only [tri_f2, tri_gVar]
      refine ⟨_, rfl, _, rfl, ?_⟩
      rw [tri_inL ek]
      exact ⟨rfl, rfl⟩
    · refine ⟨by omega, ?_⟩
      refine ⟨rfl, ?_⟩
      rw [List.take_succ, List.getElem?_map, hd]
      simp [rowOf]
  · obtain ⟨e, s3, s4, eρ⟩ := hI
    subst e eρ
    simp [tri_runF, triF_seq, triF_nx, triF_rt, triF_bk, triF_ct, triF_ret, triF_if, triF_asg, triF_new, triF_setS, triF_setSt, triF_for, aft_nx, aft_rt, aft_rf, fin_rt, fin_rf, triF_retO, fin_nx, tri_fC, tri_gVar, tri_f2, tri_f1, tri_fL, tri_aN, tri_aC, tri_fTup, tri_lDis, tri_fNew, tri_fNot, tri_fAnd, tri_fOr, tri_fIf, tri_fCh, tri_tT, tri_t2, tri_tYes, tri_tNo, tri_tAnd, tri_tOr, tri_asB, tri_truB, tri_truI, tri_truL, tri_truT, tri_truN, tri_add, tri_sub, tri_lt, tri_le, tri_gt, tri_ge, tri_mod, tri_div, tri_pow, tri_mul, tri_int, tri_len, tri_min, tri_max, tri_eqI, tri_ixL, tri_ixT, tri_ixC, tri_ixS, tri_iSeq, tri_itsL, tri_itsT, tri_itsC, tri_iRan, tri_range, tri_iG, tri_enum, tri_comp, tri_tupL, tri_tupT, tri_pure, tri_bind, tri_need, tri_lim, vw, allM, Sl.see, isSto, ixN, atI, SM.all, dLen1]
    simpa [gridD, Function.comp_def] using h
def jn (n : Nat) (L : List D) : List Nat := (List.range n).filter fun k : Nat => L.any fun d => decide ((k : Int) ∈ intsOf d)
theorem jn_succ (n : Nat) (L : List D) : jn (n + 1) L = jn n L ++ if (L.any fun d => decide ((n : Int) ∈ intsOf d)) = true then [n] else [] := by
  unfold jn
  rw [List.range_succ, List.filter_append, List.filter_cons, List.filter_nil]
theorem ran_at {n j : Nat} {d : D} (h : ((List.range n).map fun i : Nat => D.int (i : Int))[j]? = some d) : j < n ∧ d = .int (j : Nat) := by
  rw [List.getElem?_map] at h
  by_cases hh : j < n
  · rw [List.getElem?_range hh] at h
    cases h
    exact ⟨hh, rfl⟩
  · rw [List.getElem?_eq_none (by simpa using hh)] at h; cases h
theorem any_id (L : List D) (p : D → Bool) : (L.map p).any id = L.any p := by rw [List.any_map]; rfl
theorem join_run {m : SM} {L : List D} {P : D → SM → Prop} (hL : ∀ d ∈ L, d = .tup ((intsOf d).map .int)) (hl : L.length ≤ 100000) (h : P (.tup ((jn 6 L).map fun k : Nat => D.int (k : Int))) m) : Tri (den__law_join [.lst L]) m P := by
  unfold den__law_join
  simp [tri_runF, triF_seq, triF_nx, triF_rt, triF_bk, triF_ct, triF_ret, triF_if, triF_asg, triF_new, triF_setS, triF_setSt, triF_for, aft_nx, aft_rt, aft_rf, fin_rt, fin_rf, triF_retO, fin_nx, tri_fC, tri_gVar, tri_f2, tri_f1, tri_fL, tri_aN, tri_aC, tri_fTup, tri_lDis, tri_fNew, tri_fNot, tri_fAnd, tri_fOr, tri_fIf, tri_fCh, tri_tT, tri_t2, tri_tYes, tri_tNo, tri_tAnd, tri_tOr, tri_asB, tri_truB, tri_truI, tri_truL, tri_truT, tri_truN, tri_add, tri_sub, tri_lt, tri_le, tri_gt, tri_ge, tri_mod, tri_div, tri_pow, tri_mul, tri_int, tri_len, tri_min, tri_max, tri_eqI, tri_ixL, tri_ixT, tri_ixC, tri_ixS, tri_iSeq, tri_itsL, tri_itsT, tri_itsC, tri_iRan, tri_range, tri_iG, tri_enum, tri_comp, tri_tupL, tri_tupT, tri_pure, tri_bind, tri_need, tri_lim, vw, allM, Sl.see, isSto, ixN, atI, SM.all, dLen1]
  refine ⟨rfl, ?_⟩
  refine triF_loop (fun j ρ m' => m' = m ∧ ∃ s2 s3, ρ = [.va (.lst L), .ow ((jn j L).map fun k : Nat => D.int (k : Int)), s2, s3]) _ 0 _ m ⟨rfl, _, _, rfl⟩ (fun j d ρ m' hd hI => ?_) (fun ρ m' hI => ?_)
  · obtain ⟨e, s2, s3, eρ⟩ := hI
    subst e eρ
    have hr : ((List.range 6).map fun i : Nat => D.int (i : Int))[j]? = some d := hd
    obtain ⟨hj, ed⟩ := ran_at hr
    subst ed
    refine ⟨_, rfl, ?_⟩
    rw [triF_if]
    simp [tri_runF, triF_seq, triF_nx, triF_rt, triF_bk, triF_ct, triF_ret, triF_if, triF_asg, triF_new, triF_setS, triF_setSt, triF_for, aft_nx, aft_rt, aft_rf, fin_rt, fin_rf, triF_retO, fin_nx, tri_fC, tri_gVar, tri_f2, tri_f1, tri_fL, tri_aN, tri_aC, tri_fTup, tri_lDis, tri_fNew, tri_fNot, tri_fAnd, tri_fOr, tri_fIf, tri_fCh, tri_tT, tri_t2, tri_tYes, tri_tNo, tri_tAnd, tri_tOr, tri_asB, tri_truB, tri_truI, tri_truL, tri_truT, tri_truN, tri_add, tri_sub, tri_lt, tri_le, tri_gt, tri_ge, tri_mod, tri_div, tri_pow, tri_mul, tri_int, tri_len, tri_min, tri_max, tri_eqI, tri_ixL, tri_ixT, tri_ixC, tri_ixS, tri_iSeq, tri_itsL, tri_itsT, tri_itsC, tri_iRan, tri_range, tri_iG, tri_enum, tri_comp, tri_tupL, tri_tupT, tri_pure, tri_bind, tri_need, tri_lim, vw, allM, Sl.see, isSto, ixN, atI, SM.all, dLen1]
    refine ⟨by omega, ?_⟩
    refine tri_compM (fun d' => .bl (decide ((j : Int) ∈ intsOf d'))) _ (fun d' hd' => ?_) ?_
    · refine ⟨_, rfl, ?_⟩
      simp only [tri_f2, tri_gVar]
      refine ⟨_, rfl, _, rfl, ?_⟩
      rw [tri_inL (hL d' hd')]
      exact ⟨rfl, rfl⟩
    · have e : L.map (fun d' => D.bl (decide ((j : Int) ∈ intsOf d'))) = (L.map fun d' => decide ((j : Int) ∈ intsOf d')).map .bl := by rw [List.map_map]; rfl
      rw [e, tri_any, tri_truB, any_id]
      have hlen : (jn j L).length ≤ j := by unfold jn; exact Nat.le_trans (List.length_filter_le _ _) (by simp)
      by_cases hb : (L.any fun d => decide ((j : Int) ∈ intsOf d)) = true
      · rw [if_pos hb, triF_app]
        refine ⟨_, rfl, ?_⟩
        simp [tri_runF, triF_seq, triF_nx, triF_rt, triF_bk, triF_ct, triF_ret, triF_if, triF_asg, triF_new, triF_setS, triF_setSt, triF_for, aft_nx, aft_rt, aft_rf, fin_rt, fin_rf, triF_retO, fin_nx, tri_fC, tri_gVar, tri_f2, tri_f1, tri_fL, tri_aN, tri_aC, tri_fTup, tri_lDis, tri_fNew, tri_fNot, tri_fAnd, tri_fOr, tri_fIf, tri_fCh, tri_tT, tri_t2, tri_tYes, tri_tNo, tri_tAnd, tri_tOr, tri_asB, tri_truB, tri_truI, tri_truL, tri_truT, tri_truN, tri_add, tri_sub, tri_lt, tri_le, tri_gt, tri_ge, tri_mod, tri_div, tri_pow, tri_mul, tri_int, tri_len, tri_min, tri_max, tri_eqI, tri_ixL, tri_ixT, tri_ixC, tri_ixS, tri_iSeq, tri_itsL, tri_itsT, tri_itsC, tri_iRan, tri_range, tri_iG, tri_enum, tri_comp, tri_tupL, tri_tupT, tri_pure, tri_bind, tri_need, tri_lim, vw, allM, Sl.see, isSto, ixN, atI, SM.all, dLen1]
        refine ⟨by omega, ?_⟩
        rw [jn_succ, if_pos hb]
        simp
      · rw [if_neg hb]
        simp only [triF_nx]
        exact ⟨trivial, by rw [jn_succ, if_neg hb, List.append_nil]⟩
  · obtain ⟨e, s2, s3, eρ⟩ := hI
    subst e eρ
    simp [tri_runF, triF_seq, triF_nx, triF_rt, triF_bk, triF_ct, triF_ret, triF_if, triF_asg, triF_new, triF_setS, triF_setSt, triF_for, aft_nx, aft_rt, aft_rf, fin_rt, fin_rf, triF_retO, fin_nx, tri_fC, tri_gVar, tri_f2, tri_f1, tri_fL, tri_aN, tri_aC, tri_fTup, tri_lDis, tri_fNew, tri_fNot, tri_fAnd, tri_fOr, tri_fIf, tri_fCh, tri_tT, tri_t2, tri_tYes, tri_tNo, tri_tAnd, tri_tOr, tri_asB, tri_truB, tri_truI, tri_truL, tri_truT, tri_truN, tri_add, tri_sub, tri_lt, tri_le, tri_gt, tri_ge, tri_mod, tri_div, tri_pow, tri_mul, tri_int, tri_len, tri_min, tri_max, tri_eqI, tri_ixL, tri_ixT, tri_ixC, tri_ixS, tri_iSeq, tri_itsL, tri_itsT, tri_itsC, tri_iRan, tri_range, tri_iG, tri_enum, tri_comp, tri_tupL, tri_tupT, tri_pure, tri_bind, tri_need, tri_lim, vw, allM, Sl.see, isSto, ixN, atI, SM.all, dLen1]
    simpa using h
end Hd
set_option Elab.async false
set_option linter.all false
set_option maxRecDepth 100000
set_option maxHeartbeats 4000000
namespace Hd
open PySem PySem.Spec PyProof.Rows L2 Den
theorem IsLot.mem {w : Int} {d : D} (h : IsLot w d) : ∀ k ∈ intsOf d, 0 ≤ k ∧ k < w := by
  obtain ⟨ks, e, hk, _⟩ := h
  rw [e, intsOf_tup]
  exact hk
theorem join_lot {w : Int} {L : List D} (hL : ∀ d ∈ L, IsLot w d) : IsLot w (.tup ((jn 6 L).map fun k : Nat => D.int (k : Int))) := by
  refine ⟨(jn 6 L).map fun k : Nat => (k : Int), by simp, fun k hk => ?_, ?_⟩
  case refine_2 =>
    rw [List.length_map]
    unfold jn
    exact Nat.le_trans (List.length_filter_le _ _) (by simp)
  obtain ⟨n, hn, e⟩ := List.mem_map.mp hk
  obtain ⟨_, h2⟩ := List.mem_filter.mp hn
  obtain ⟨d, hd, h3⟩ := List.any_eq_true.mp h2
  rw [← e]
  exact (hL d hd).mem _ (of_decide_eq_true h3)
theorem nil_lot {w : Int} : IsLot w (.tup []) := ⟨[], rfl, by simp, by simp⟩
theorem pick_at {m : SM} {xs : List D} {P : D → SM → Prop} (hm : SI m) (h0 : xs ≠ []) (hl : xs.length ≤ 1000) (h : ∀ m' d, SI m' → d ∈ xs → P d m') : Tri (den__law_pick [.sto, .lst xs]) m P := by
  have hp : 0 < xs.length := List.length_pos_iff.mpr h0
  unfold den__law_pick
  simp [tri_runF, triF_seq, triF_nx, triF_rt, triF_bk, triF_ct, triF_ret, triF_if, triF_asg, triF_new, triF_setS, triF_setSt, triF_for, aft_nx, aft_rt, aft_rf, fin_rt, fin_rf, triF_retO, fin_nx, tri_fC, tri_gVar, tri_f2, tri_f1, tri_fL, tri_aN, tri_aC, tri_fTup, tri_lDis, tri_fNew, tri_fNot, tri_fAnd, tri_fOr, tri_fIf, tri_fCh, tri_tT, tri_t2, tri_tYes, tri_tNo, tri_tAnd, tri_tOr, tri_asB, tri_truB, tri_truI, tri_truL, tri_truT, tri_truN, tri_add, tri_sub, tri_lt, tri_le, tri_gt, tri_ge, tri_mod, tri_div, tri_pow, tri_mul, tri_int, tri_len, tri_min, tri_max, tri_eqI, tri_ixL, tri_ixT, tri_ixC, tri_ixS, tri_iSeq, tri_itsL, tri_itsT, tri_itsC, tri_iRan, tri_range, tri_iG, tri_enum, tri_comp, tri_tupL, tri_tupT, tri_pure, tri_bind, tri_need, tri_lim, vw, allM, Sl.see, isSto, ixN, atI, SM.all, dLen1]
  rw [if_neg h0]
  refine take_at hm (by omega) fun m1 z h1 h2 h3 => ?_
  rw [tri_ixL, atI_pos h2]
  have hz : z.toNat < xs.length := by omega
  exact ⟨_, List.getElem?_eq_getElem hz, h m1 _ h1 (List.getElem_mem hz)⟩
theorem side_at {m : SM} {n : Int} {P : D → SM → Prop} (hm : SI m) (h0 : 0 ≤ n) (hn : n ≤ 1000) (h : ∀ m' z, SI m' → 0 ≤ z → z ≤ n → P (.int z) m') : Tri (den__law_side [.sto, .int n]) m P := by
  unfold den__law_side
  simp [tri_runF, triF_seq, triF_nx, triF_rt, triF_bk, triF_ct, triF_ret, triF_if, triF_asg, triF_new, triF_setS, triF_setSt, triF_for, aft_nx, aft_rt, aft_rf, fin_rt, fin_rf, triF_retO, fin_nx, tri_fC, tri_gVar, tri_f2, tri_f1, tri_fL, tri_aN, tri_aC, tri_fTup, tri_lDis, tri_fNew, tri_fNot, tri_fAnd, tri_fOr, tri_fIf, tri_fCh, tri_tT, tri_t2, tri_tYes, tri_tNo, tri_tAnd, tri_tOr, tri_asB, tri_truB, tri_truI, tri_truL, tri_truT, tri_truN, tri_add, tri_sub, tri_lt, tri_le, tri_gt, tri_ge, tri_mod, tri_div, tri_pow, tri_mul, tri_int, tri_len, tri_min, tri_max, tri_eqI, tri_ixL, tri_ixT, tri_ixC, tri_ixS, tri_iSeq, tri_itsL, tri_itsT, tri_itsC, tri_iRan, tri_range, tri_iG, tri_enum, tri_comp, tri_tupL, tri_tupT, tri_pure, tri_bind, tri_need, tri_lim, vw, allM, Sl.see, isSto, ixN, atI, SM.all, dLen1]
  refine take_at hm (by decide) fun m1 z h1 h2 h3 => ?_
  simp [tri_runF, triF_seq, triF_nx, triF_rt, triF_bk, triF_ct, triF_ret, triF_if, triF_asg, triF_new, triF_setS, triF_setSt, triF_for, aft_nx, aft_rt, aft_rf, fin_rt, fin_rf, triF_retO, fin_nx, tri_fC, tri_gVar, tri_f2, tri_f1, tri_fL, tri_aN, tri_aC, tri_fTup, tri_lDis, tri_fNew, tri_fNot, tri_fAnd, tri_fOr, tri_fIf, tri_fCh, tri_tT, tri_t2, tri_tYes, tri_tNo, tri_tAnd, tri_tOr, tri_asB, tri_truB, tri_truI, tri_truL, tri_truT, tri_truN, tri_add, tri_sub, tri_lt, tri_le, tri_gt, tri_ge, tri_mod, tri_div, tri_pow, tri_mul, tri_int, tri_len, tri_min, tri_max, tri_eqI, tri_ixL, tri_ixT, tri_ixC, tri_ixS, tri_iSeq, tri_itsL, tri_itsT, tri_itsC, tri_iRan, tri_range, tri_iG, tri_enum, tri_comp, tri_tupL, tri_tupT, tri_pure, tri_bind, tri_need, tri_lim, vw, allM, Sl.see, isSto, ixN, atI, SM.all, dLen1]
  split
  · exact h m1 n h1 (by omega) (by omega)
  split
  · exact take_at h1 (by omega) fun m2 y g1 g2 g3 => h m2 y g1 g2 (by omega)
  · refine take_at h1 ?_ fun m2 y g1 g2 g3 => h m2 y g1 g2 ?_
    · split <;> omega
    · revert g3; split <;> omega
/-- a table turned over, by its rows -/
def trn (w : Nat) (rows : List (List Bool)) : List (List Bool) := (List.range w).map fun k => rows.map fun r => r.getD k false
theorem turn_run {m : SM} {h w : Nat} {rows : List (List Bool)} {P : D → SM → Prop} (hh : rows.length = h) (hr : ∀ r ∈ rows, r.length = w) (h1 : h ≤ 1000) (h2 : w ≤ 1000) (hP : P (gridD w h (trn w rows)) m) : Tri (den__law_turn [gridD h w rows]) m P := by
  unfold den__law_turn
  unfold gridD at hP ⊢
  simp [tri_runF, triF_seq, triF_nx, triF_rt, triF_bk, triF_ct, triF_ret, triF_if, triF_asg, triF_new, triF_setS, triF_setSt, triF_for, aft_nx, aft_rt, aft_rf, fin_rt, fin_rf, triF_retO, fin_nx, tri_fC, tri_gVar, tri_f2, tri_f1, tri_fL, tri_aN, tri_aC, tri_fTup, tri_lDis, tri_fNew, tri_fNot, tri_fAnd, tri_fOr, tri_fIf, tri_fCh, tri_tT, tri_t2, tri_tYes, tri_tNo, tri_tAnd, tri_tOr, tri_asB, tri_truB, tri_truI, tri_truL, tri_truT, tri_truN, tri_add, tri_sub, tri_lt, tri_le, tri_gt, tri_ge, tri_mod, tri_div, tri_pow, tri_mul, tri_int, tri_len, tri_min, tri_max, tri_eqI, tri_ixL, tri_ixT, tri_ixC, tri_ixS, tri_iSeq, tri_itsL, tri_itsT, tri_itsC, tri_iRan, tri_range, tri_iG, tri_enum, tri_comp, tri_tupL, tri_tupT, tri_pure, tri_bind, tri_need, tri_lim, vw, allM, Sl.see, isSto, ixN, atI, SM.all, dLen1]
  refine ⟨rfl, by omega, ?_⟩
  refine triF_loop (fun j ρ m' => m' = m ∧ ∃ s2 s3, ρ = [.va (.tup [.str "table", .int h, .int w, .tup (rows.map fun r => .tup (r.map .bl))]), .ow (((trn w rows).take j).map fun r => .tup (r.map .bl)), s2, s3]) _ 0 _ m ⟨rfl, _, _, rfl⟩ (fun j d ρ m' hd hI => ?_) (fun ρ m' hI => ?_)
  · obtain ⟨e, s2, s3, eρ⟩ := hI
    subst e eρ
    obtain ⟨hj, ed⟩ := ran_at hd
    subst ed
    refine ⟨_, rfl, ?_⟩
    rw [triF_app]
    refine ⟨_, rfl, ?_⟩
    simp [tri_runF, triF_seq, triF_nx, triF_rt, triF_bk, triF_ct, triF_ret, triF_if, triF_asg, triF_new, triF_setS, triF_setSt, triF_for, aft_nx, aft_rt, aft_rf, fin_rt, fin_rf, triF_retO, fin_nx, tri_fC, tri_gVar, tri_f2, tri_f1, tri_fL, tri_aN, tri_aC, tri_fTup, tri_lDis, tri_fNew, tri_fNot, tri_fAnd, tri_fOr, tri_fIf, tri_fCh, tri_tT, tri_t2, tri_tYes, tri_tNo, tri_tAnd, tri_tOr, tri_asB, tri_truB, tri_truI, tri_truL, tri_truT, tri_truN, tri_add, tri_sub, tri_lt, tri_le, tri_gt, tri_ge, tri_mod, tri_div, tri_pow, tri_mul, tri_int, tri_len, tri_min, tri_max, tri_eqI, tri_ixL, tri_ixT, tri_ixC, tri_ixS, tri_iSeq, tri_itsL, tri_itsT, tri_itsC, tri_iRan, tri_range, tri_iG, tri_enum, tri_comp, tri_tupL, tri_tupT, tri_pure, tri_bind, tri_need, tri_lim, vw, allM, Sl.see, isSto, ixN, atI, SM.all, dLen1]
    refine ⟨by omega, ?_⟩
    refine tri_compM (fun d => match d with | .tup xs => (match xs[j]? with | some z => z | none => .non) | _ => .non) _ (fun d hd => ?_) ?_
    · obtain ⟨r, hr', e⟩ := List.mem_map.mp hd
      subst e
      refine ⟨_, rfl, ?_⟩
      simp only [tri_f2, tri_gVar]
      refine ⟨_, rfl, _, rfl, ?_⟩
      rw [tri_ixT, Den.atI_nat]
      have hjr : j < r.length := by rw [hr r hr']; exact hj
      refine ⟨.bl r[j], by simp [hjr], rfl, ?_⟩
      simp [hjr]
    · have hl : (trn w rows).length = w := by simp [trn]
      have hget : (trn w rows)[j]? = some (rows.map fun r => r.getD j false) := by simp [trn, hj]
      refine ⟨by omega, ?_⟩
      refine ⟨rfl, ?_⟩
      rw [List.take_succ, List.getElem?_map, hget, List.map_map]
      simp only [Option.map_some, Option.toList_some]
      congr 3
      rw [List.map_map]
      refine List.map_congr_left fun r hr' => ?_
      have hjr : j < r.length := by rw [hr r hr']; exact hj
      simp [hjr]
  · obtain ⟨e, s2, s3, eρ⟩ := hI
    subst e eρ
    have hl : (trn w rows).length = w := by simp [trn]
    have ht : (trn w rows).take w = trn w rows := List.take_of_length_le (by omega)
    simp [tri_runF, triF_seq, triF_nx, triF_rt, triF_bk, triF_ct, triF_ret, triF_if, triF_asg, triF_new, triF_setS, triF_setSt, triF_for, aft_nx, aft_rt, aft_rf, fin_rt, fin_rf, triF_retO, fin_nx, tri_fC, tri_gVar, tri_f2, tri_f1, tri_fL, tri_aN, tri_aC, tri_fTup, tri_lDis, tri_fNew, tri_fNot, tri_fAnd, tri_fOr, tri_fIf, tri_fCh, tri_tT, tri_t2, tri_tYes, tri_tNo, tri_tAnd, tri_tOr, tri_asB, tri_truB, tri_truI, tri_truL, tri_truT, tri_truN, tri_add, tri_sub, tri_lt, tri_le, tri_gt, tri_ge, tri_mod, tri_div, tri_pow, tri_mul, tri_int, tri_len, tri_min, tri_max, tri_eqI, tri_ixL, tri_ixT, tri_ixC, tri_ixS, tri_iSeq, tri_itsL, tri_itsT, tri_itsC, tri_iRan, tri_range, tri_iG, tri_enum, tri_comp, tri_tupL, tri_tupT, tri_pure, tri_bind, tri_need, tri_lim, vw, allM, Sl.see, isSto, ixN, atI, SM.all, dLen1]
    rw [List.take_of_length_le (by simp [trn])]
    exact hP
end Hd
set_option Elab.async false
set_option linter.all false
set_option maxRecDepth 100000
set_option maxHeartbeats 4000000
namespace Hd
open PySem PySem.Spec PyProof.Rows L2 Den
theorem trn_ok (h w : Nat) (rows : List (List Bool)) (hh : rows.length = h) : (trn w rows).length = w ∧ ∀ r ∈ trn w rows, r.length = h := by
  refine ⟨by simp [trn], fun r hr => ?_⟩
  obtain ⟨k, _, e⟩ := List.mem_map.mp hr
  rw [← e, List.length_map, hh]
theorem turn_at {m : SM} {h w : Nat} {g : D} {P : D → SM → Prop} (hg : IsGrid h w g) (h1 : h ≤ 1000) (h2 : w ≤ 1000) (hP : ∀ d, IsGrid w h d → P d m) : Tri (den__law_turn [g]) m P := by
  have q := hg.ex
  cases q with
  | intro rows q =>
  cases q with
  | intro a q =>
  cases q with
  | intro b e =>
  rw [e]
  exact turn_run a b h1 h2 (hP _ (IsGrid.mk ⟨trn w rows, (trn_ok h w rows a).1, (trn_ok h w rows a).2, rfl⟩))
theorem grid_of (L : List D) (w : Nat) : IsGrid L.length w (gridD L.length w (L.map (rowOf w))) := by
  refine IsGrid.mk ⟨L.map (rowOf w), List.length_map _, ?_, rfl⟩
  intro r hr
  obtain ⟨d, _, e⟩ := List.mem_map.mp hr
  rw [← e, rowOf, List.length_map, List.length_range]
theorem of_at {m : SM} {L : List D} {w : Nat} {P : D → SM → Prop} (hL : ∀ d ∈ L, IsLot w d) (hl : L.length ≤ 1000) (hw : w ≤ 1000) (h : ∀ d, IsGrid L.length w d → P d m) : Tri (den__law_of [.lst L, .int w]) m P := by
  refine of_run ?_ hl hw (h _ (grid_of L w))
  intro d hd
  exact (hL d hd).its
theorem free_at {m : SM} {h w : Nat} {P : D → SM → Prop} (hm : SI m) (h1 : h ≤ 1000) (h2 : w ≤ 1000) (hP : ∀ m' d, SI m' → IsGrid h w d → P d m') : Tri (den__law_free [.sto, .int h, .int w]) m P := by
  unfold den__law_free
  simp [tri_runF, triF_seq, triF_nx, triF_rt, triF_bk, triF_ct, triF_ret, triF_if, triF_asg, triF_new, triF_setS, triF_setSt, triF_for, aft_nx, aft_rt, aft_rf, fin_rt, fin_rf, triF_retO, fin_nx, tri_fC, tri_gVar, tri_f2, tri_f1, tri_fL, tri_aN, tri_aC, tri_fTup, tri_lDis, tri_fNew, tri_fNot, tri_fAnd, tri_fOr, tri_fIf, tri_fCh, tri_tT, tri_t2, tri_tYes, tri_tNo, tri_tAnd, tri_tOr, tri_asB, tri_truB, tri_truI, tri_truL, tri_truT, tri_truN, tri_add, tri_sub, tri_lt, tri_le, tri_gt, tri_ge, tri_mod, tri_div, tri_pow, tri_mul, tri_int, tri_len, tri_min, tri_max, tri_eqI, tri_ixL, tri_ixT, tri_ixC, tri_ixS, tri_iSeq, tri_itsL, tri_itsT, tri_itsC, tri_iRan, tri_range, tri_iG, tri_enum, tri_comp, tri_tupL, tri_tupT, tri_pure, tri_bind, tri_need, tri_lim, vw, allM, Sl.see, isSto, ixN, atI, SM.all, dLen1]
  refine take_at hm (by decide) fun m1 z k1 k2 k3 => ?_
  refine ⟨rfl, by omega, ?_⟩
  refine triF_loop (fun j ρ m' => SI m' ∧ ∃ L s5 s6, L.length = j ∧ (∀ d ∈ L, IsLot w d) ∧ ρ = [.va .sto, .va (.int h), .va (.int w), .va (.int z), .ow L, s5, s6]) _ 0 _ m1 ⟨k1, [], _, _, rfl, by simp, rfl⟩ (fun j d ρ m' hd hI => ?_) (fun ρ m' hI => ?_)
  · obtain ⟨hm', L, s5, s6, hl, hL, eρ⟩ := hI
    subst eρ
    obtain ⟨hj, ed⟩ := ran_at hd
    refine ⟨_, rfl, ?_⟩
    have last : ∀ (ds : List D) (m : SM), SI m → IsLot w (.tup ds) → L.length ≤ 16777215 ∧ SI m ∧ L.length = j ∧ ∀ (d : D), d ∈ L ∨ d = .tup ds → IsLot w d := fun ds m q1 q2 => ⟨by omega, q1, by omega, fun x hx => hx.elim (hL x) fun e => by rw [e]; exact q2⟩
    simp only [triF_if, triF_app]
    simp [tri_runF, triF_seq, triF_nx, triF_rt, triF_bk, triF_ct, triF_ret, triF_if, triF_asg, triF_new, triF_setS, triF_setSt, triF_for, aft_nx, aft_rt, aft_rf, fin_rt, fin_rf, triF_retO, fin_nx, tri_fC, tri_gVar, tri_f2, tri_f1, tri_fL, tri_aN, tri_aC, tri_fTup, tri_lDis, tri_fNew, tri_fNot, tri_fAnd, tri_fOr, tri_fIf, tri_fCh, tri_tT, tri_t2, tri_tYes, tri_tNo, tri_tAnd, tri_tOr, tri_asB, tri_truB, tri_truI, tri_truL, tri_truT, tri_truN, tri_add, tri_sub, tri_lt, tri_le, tri_gt, tri_ge, tri_mod, tri_div, tri_pow, tri_mul, tri_int, tri_len, tri_min, tri_max, tri_eqI, tri_ixL, tri_ixT, tri_ixC, tri_ixS, tri_iSeq, tri_itsL, tri_itsT, tri_itsC, tri_iRan, tri_range, tri_iG, tri_enum, tri_comp, tri_tupL, tri_tupT, tri_pure, tri_bind, tri_need, tri_lim, vw, allM, Sl.see, isSto, ixN, atI, SM.all, dLen1]
    split
    · refine ⟨by omega, by omega, lot_comp (n := (w : Int)) hm' (by simp) (by omega) (fun i m hm hi => ?_) last⟩
      simp [tri_runF, triF_seq, triF_nx, triF_rt, triF_bk, triF_ct, triF_ret, triF_if, triF_asg, triF_new, triF_setS, triF_setSt, triF_for, aft_nx, aft_rt, aft_rf, fin_rt, fin_rf, triF_retO, fin_nx, tri_fC, tri_gVar, tri_f2, tri_f1, tri_fL, tri_aN, tri_aC, tri_fTup, tri_lDis, tri_fNew, tri_fNot, tri_fAnd, tri_fOr, tri_fIf, tri_fCh, tri_tT, tri_t2, tri_tYes, tri_tNo, tri_tAnd, tri_tOr, tri_asB, tri_truB, tri_truI, tri_truL, tri_truT, tri_truN, tri_add, tri_sub, tri_lt, tri_le, tri_gt, tri_ge, tri_mod, tri_div, tri_pow, tri_mul, tri_int, tri_len, tri_min, tri_max, tri_eqI, tri_ixL, tri_ixT, tri_ixC, tri_ixS, tri_iSeq, tri_itsL, tri_itsT, tri_itsC, tri_iRan, tri_range, tri_iG, tri_enum, tri_comp, tri_tupL, tri_tupT, tri_pure, tri_bind, tri_need, tri_lim, vw, allM, Sl.see, isSto, ixN, atI, SM.all, dLen1]
      refine take_at hm (by decide) fun m2 y g1 g2 g3 => ?_
      simp [tri_runF, triF_seq, triF_nx, triF_rt, triF_bk, triF_ct, triF_ret, triF_if, triF_asg, triF_new, triF_setS, triF_setSt, triF_for, aft_nx, aft_rt, aft_rf, fin_rt, fin_rf, triF_retO, fin_nx, tri_fC, tri_gVar, tri_f2, tri_f1, tri_fL, tri_aN, tri_aC, tri_fTup, tri_lDis, tri_fNew, tri_fNot, tri_fAnd, tri_fOr, tri_fIf, tri_fCh, tri_tT, tri_t2, tri_tYes, tri_tNo, tri_tAnd, tri_tOr, tri_asB, tri_truB, tri_truI, tri_truL, tri_truT, tri_truN, tri_add, tri_sub, tri_lt, tri_le, tri_gt, tri_ge, tri_mod, tri_div, tri_pow, tri_mul, tri_int, tri_len, tri_min, tri_max, tri_eqI, tri_ixL, tri_ixT, tri_ixC, tri_ixS, tri_iSeq, tri_itsL, tri_itsT, tri_itsC, tri_iRan, tri_range, tri_iG, tri_enum, tri_comp, tri_tupL, tri_tupT, tri_pure, tri_bind, tri_need, tri_lim, vw, allM, Sl.see, isSto, ixN, atI, SM.all, dLen1]; exact g1
    split
    · refine ⟨by omega, by omega, lot_comp (n := (w : Int)) hm' (by simp) (by omega) (fun i m hm hi => ?_) last⟩
      simp [tri_runF, triF_seq, triF_nx, triF_rt, triF_bk, triF_ct, triF_ret, triF_if, triF_asg, triF_new, triF_setS, triF_setSt, triF_for, aft_nx, aft_rt, aft_rf, fin_rt, fin_rf, triF_retO, fin_nx, tri_fC, tri_gVar, tri_f2, tri_f1, tri_fL, tri_aN, tri_aC, tri_fTup, tri_lDis, tri_fNew, tri_fNot, tri_fAnd, tri_fOr, tri_fIf, tri_fCh, tri_tT, tri_t2, tri_tYes, tri_tNo, tri_tAnd, tri_tOr, tri_asB, tri_truB, tri_truI, tri_truL, tri_truT, tri_truN, tri_add, tri_sub, tri_lt, tri_le, tri_gt, tri_ge, tri_mod, tri_div, tri_pow, tri_mul, tri_int, tri_len, tri_min, tri_max, tri_eqI, tri_ixL, tri_ixT, tri_ixC, tri_ixS, tri_iSeq, tri_itsL, tri_itsT, tri_itsC, tri_iRan, tri_range, tri_iG, tri_enum, tri_comp, tri_tupL, tri_tupT, tri_pure, tri_bind, tri_need, tri_lim, vw, allM, Sl.see, isSto, ixN, atI, SM.all, dLen1]
      refine take_at hm (by decide) fun m2 y g1 g2 g3 => ?_
      simp only [tri_neI]; simp [tri_runF, triF_seq, triF_nx, triF_rt, triF_bk, triF_ct, triF_ret, triF_if, triF_asg, triF_new, triF_setS, triF_setSt, triF_for, aft_nx, aft_rt, aft_rf, fin_rt, fin_rf, triF_retO, fin_nx, tri_fC, tri_gVar, tri_f2, tri_f1, tri_fL, tri_aN, tri_aC, tri_fTup, tri_lDis, tri_fNew, tri_fNot, tri_fAnd, tri_fOr, tri_fIf, tri_fCh, tri_tT, tri_t2, tri_tYes, tri_tNo, tri_tAnd, tri_tOr, tri_asB, tri_truB, tri_truI, tri_truL, tri_truT, tri_truN, tri_add, tri_sub, tri_lt, tri_le, tri_gt, tri_ge, tri_mod, tri_div, tri_pow, tri_mul, tri_int, tri_len, tri_min, tri_max, tri_eqI, tri_ixL, tri_ixT, tri_ixC, tri_ixS, tri_iSeq, tri_itsL, tri_itsT, tri_itsC, tri_iRan, tri_range, tri_iG, tri_enum, tri_comp, tri_tupL, tri_tupT, tri_pure, tri_bind, tri_need, tri_lim, vw, allM, Sl.see, isSto, ixN, atI, SM.all, dLen1]; exact g1
    · refine ⟨by omega, by omega, lot_comp (n := (w : Int)) hm' (by simp) (by omega) (fun i m hm hi => ?_) last⟩
      simp [tri_runF, triF_seq, triF_nx, triF_rt, triF_bk, triF_ct, triF_ret, triF_if, triF_asg, triF_new, triF_setS, triF_setSt, triF_for, aft_nx, aft_rt, aft_rf, fin_rt, fin_rf, triF_retO, fin_nx, tri_fC, tri_gVar, tri_f2, tri_f1, tri_fL, tri_aN, tri_aC, tri_fTup, tri_lDis, tri_fNew, tri_fNot, tri_fAnd, tri_fOr, tri_fIf, tri_fCh, tri_tT, tri_t2, tri_tYes, tri_tNo, tri_tAnd, tri_tOr, tri_asB, tri_truB, tri_truI, tri_truL, tri_truT, tri_truN, tri_add, tri_sub, tri_lt, tri_le, tri_gt, tri_ge, tri_mod, tri_div, tri_pow, tri_mul, tri_int, tri_len, tri_min, tri_max, tri_eqI, tri_ixL, tri_ixT, tri_ixC, tri_ixS, tri_iSeq, tri_itsL, tri_itsT, tri_itsC, tri_iRan, tri_range, tri_iG, tri_enum, tri_comp, tri_tupL, tri_tupT, tri_pure, tri_bind, tri_need, tri_lim, vw, allM, Sl.see, isSto, ixN, atI, SM.all, dLen1]
      refine take_at hm (by decide) fun m2 y g1 g2 g3 => ?_
      simp [tri_runF, triF_seq, triF_nx, triF_rt, triF_bk, triF_ct, triF_ret, triF_if, triF_asg, triF_new, triF_setS, triF_setSt, triF_for, aft_nx, aft_rt, aft_rf, fin_rt, fin_rf, triF_retO, fin_nx, tri_fC, tri_gVar, tri_f2, tri_f1, tri_fL, tri_aN, tri_aC, tri_fTup, tri_lDis, tri_fNew, tri_fNot, tri_fAnd, tri_fOr, tri_fIf, tri_fCh, tri_tT, tri_t2, tri_tYes, tri_tNo, tri_tAnd, tri_tOr, tri_asB, tri_truB, tri_truI, tri_truL, tri_truT, tri_truN, tri_add, tri_sub, tri_lt, tri_le, tri_gt, tri_ge, tri_mod, tri_div, tri_pow, tri_mul, tri_int, tri_len, tri_min, tri_max, tri_eqI, tri_ixL, tri_ixT, tri_ixC, tri_ixS, tri_iSeq, tri_itsL, tri_itsT, tri_itsC, tri_iRan, tri_range, tri_iG, tri_enum, tri_comp, tri_tupL, tri_tupT, tri_pure, tri_bind, tri_need, tri_lim, vw, allM, Sl.see, isSto, ixN, atI, SM.all, dLen1]; exact g1
  · obtain ⟨hm', L, s5, s6, hl, hL, eρ⟩ := hI
    subst eρ
    have hl' : L.length = h := by simpa using hl
    simp [tri_runF, triF_seq, triF_nx, triF_rt, triF_bk, triF_ct, triF_ret, triF_if, triF_asg, triF_new, triF_setS, triF_setSt, triF_for, aft_nx, aft_rt, aft_rf, fin_rt, fin_rf, triF_retO, fin_nx, tri_fC, tri_gVar, tri_f2, tri_f1, tri_fL, tri_aN, tri_aC, tri_fTup, tri_lDis, tri_fNew, tri_fNot, tri_fAnd, tri_fOr, tri_fIf, tri_fCh, tri_tT, tri_t2, tri_tYes, tri_tNo, tri_tAnd, tri_tOr, tri_asB, tri_truB, tri_truI, tri_truL, tri_truT, tri_truN, tri_add, tri_sub, tri_lt, tri_le, tri_gt, tri_ge, tri_mod, tri_div, tri_pow, tri_mul, tri_int, tri_len, tri_min, tri_max, tri_eqI, tri_ixL, tri_ixT, tri_ixC, tri_ixS, tri_iSeq, tri_itsL, tri_itsT, tri_itsC, tri_iRan, tri_range, tri_iG, tri_enum, tri_comp, tri_tupL, tri_tupT, tri_pure, tri_bind, tri_need, tri_lim, vw, allM, Sl.see, isSto, ixN, atI, SM.all, dLen1]
    subst hl'
    exact of_at hL h1 h2 fun d hd => hP m' d hm' hd
theorem rect_at {m : SM} {h w : Nat} {P : D → SM → Prop} (hm : SI m) (h1 : h ≤ 1000) (h2 : w ≤ 1000) (hP : ∀ m' d, SI m' → IsGrid h w d → P d m') : Tri (den__law_rect [.sto, .int h, .int w]) m P := by
  unfold den__law_rect
  simp [tri_runF, triF_seq, triF_nx, triF_rt, triF_bk, triF_ct, triF_ret, triF_if, triF_asg, triF_new, triF_setS, triF_setSt, triF_for, aft_nx, aft_rt, aft_rf, fin_rt, fin_rf, triF_retO, fin_nx, tri_fC, tri_gVar, tri_f2, tri_f1, tri_fL, tri_aN, tri_aC, tri_fTup, tri_lDis, tri_fNew, tri_fNot, tri_fAnd, tri_fOr, tri_fIf, tri_fCh, tri_tT, tri_t2, tri_tYes, tri_tNo, tri_tAnd, tri_tOr, tri_asB, tri_truB, tri_truI, tri_truL, tri_truT, tri_truN, tri_add, tri_sub, tri_lt, tri_le, tri_gt, tri_ge, tri_mod, tri_div, tri_pow, tri_mul, tri_int, tri_len, tri_min, tri_max, tri_eqI, tri_ixL, tri_ixT, tri_ixC, tri_ixS, tri_iSeq, tri_itsL, tri_itsT, tri_itsC, tri_iRan, tri_range, tri_iG, tri_enum, tri_comp, tri_tupL, tri_tupT, tri_pure, tri_bind, tri_need, tri_lim, vw, allM, Sl.see, isSto, ixN, atI, SM.all, dLen1]
  refine take_at hm (by decide) fun m1 z k1 k2 k3 => ?_
  simp [tri_runF, triF_seq, triF_nx, triF_rt, triF_bk, triF_ct, triF_ret, triF_if, triF_asg, triF_new, triF_setS, triF_setSt, triF_for, aft_nx, aft_rt, aft_rf, fin_rt, fin_rf, triF_retO, fin_nx, tri_fC, tri_gVar, tri_f2, tri_f1, tri_fL, tri_aN, tri_aC, tri_fTup, tri_lDis, tri_fNew, tri_fNot, tri_fAnd, tri_fOr, tri_fIf, tri_fCh, tri_tT, tri_t2, tri_tYes, tri_tNo, tri_tAnd, tri_tOr, tri_asB, tri_truB, tri_truI, tri_truL, tri_truT, tri_truN, tri_add, tri_sub, tri_lt, tri_le, tri_gt, tri_ge, tri_mod, tri_div, tri_pow, tri_mul, tri_int, tri_len, tri_min, tri_max, tri_eqI, tri_ixL, tri_ixT, tri_ixC, tri_ixS, tri_iSeq, tri_itsL, tri_itsT, tri_itsC, tri_iRan, tri_range, tri_iG, tri_enum, tri_comp, tri_tupL, tri_tupT, tri_pure, tri_bind, tri_need, tri_lim, vw, allM, Sl.see, isSto, ixN, atI, SM.all, dLen1]
  refine ⟨by omega, by omega, ?_⟩
  refine tri_compE SI (fun d y => ∃ i : Int, y = .int i) true _ k1 (fun d hd m hm => ?_) fun ys m2 g1 g2 g3 g4 => ?_
  · refine ⟨_, rfl, ?_⟩
    simp [tri_runF, triF_seq, triF_nx, triF_rt, triF_bk, triF_ct, triF_ret, triF_if, triF_asg, triF_new, triF_setS, triF_setSt, triF_for, aft_nx, aft_rt, aft_rf, fin_rt, fin_rf, triF_retO, fin_nx, tri_fC, tri_gVar, tri_f2, tri_f1, tri_fL, tri_aN, tri_aC, tri_fTup, tri_lDis, tri_fNew, tri_fNot, tri_fAnd, tri_fOr, tri_fIf, tri_fCh, tri_tT, tri_t2, tri_tYes, tri_tNo, tri_tAnd, tri_tOr, tri_asB, tri_truB, tri_truI, tri_truL, tri_truT, tri_truN, tri_add, tri_sub, tri_lt, tri_le, tri_gt, tri_ge, tri_mod, tri_div, tri_pow, tri_mul, tri_int, tri_len, tri_min, tri_max, tri_eqI, tri_ixL, tri_ixT, tri_ixC, tri_ixS, tri_iSeq, tri_itsL, tri_itsT, tri_itsC, tri_iRan, tri_range, tri_iG, tri_enum, tri_comp, tri_tupL, tri_tupT, tri_pure, tri_bind, tri_need, tri_lim, vw, allM, Sl.see, isSto, ixN, atI, SM.all, dLen1]
    exact take_at hm (by omega) fun m2 y g1 g2 g3 => ⟨⟨y, rfl⟩, g1⟩
  · have ly : ys.length = w := by simpa using g3 rfl
    obtain ⟨cs, ec, _⟩ := ints_of (p := fun _ => True) (ys := ys) fun y hy => by
      obtain ⟨_, _, i, e⟩ := g4 y hy
      exact ⟨i, e, trivial⟩
    subst ec
    have lc : cs.length = w := by simpa using ly
    refine ⟨rfl, by omega, ?_⟩
    refine triF_loop (fun j ρ m' => SI m' ∧ ∃ L s6 s7 s8, L.length = j ∧ (∀ d ∈ L, IsLot w d) ∧ ρ = [.va .sto, .va (.int h), .va (.int w), .va (.int (1 + z)), .va (.lst (cs.map .int)), .ow L, s6, s7, s8]) _ 0 _ m2 ⟨g1, [], _, _, _, rfl, by simp, rfl⟩ (fun j d ρ m' hd hI => ?_) (fun ρ m' hI => ?_)
    · obtain ⟨hm', L, s6, s7, s8, hl, hL, eρ⟩ := hI
      subst eρ
      obtain ⟨hj, ed⟩ := ran_at hd
      refine ⟨_, rfl, ?_⟩
      have last : ∀ (ds : List D) (m : SM), SI m → IsLot w (.tup ds) → L.length ≤ 16777215 ∧ SI m ∧ L.length = j ∧ ∀ (d : D), d ∈ L ∨ d = .tup ds → IsLot w d := fun ds m q1 q2 => ⟨by omega, q1, by omega, fun x hx => hx.elim (hL x) fun e => by rw [e]; exact q2⟩
      simp only [triF_seq, triF_asg]
      simp [tri_runF, triF_seq, triF_nx, triF_rt, triF_bk, triF_ct, triF_ret, triF_if, triF_asg, triF_new, triF_setS, triF_setSt, triF_for, aft_nx, aft_rt, aft_rf, fin_rt, fin_rf, triF_retO, fin_nx, tri_fC, tri_gVar, tri_f2, tri_f1, tri_fL, tri_aN, tri_aC, tri_fTup, tri_lDis, tri_fNew, tri_fNot, tri_fAnd, tri_fOr, tri_fIf, tri_fCh, tri_tT, tri_t2, tri_tYes, tri_tNo, tri_tAnd, tri_tOr, tri_asB, tri_truB, tri_truI, tri_truL, tri_truT, tri_truN, tri_add, tri_sub, tri_lt, tri_le, tri_gt, tri_ge, tri_mod, tri_div, tri_pow, tri_mul, tri_int, tri_len, tri_min, tri_max, tri_eqI, tri_ixL, tri_ixT, tri_ixC, tri_ixS, tri_iSeq, tri_itsL, tri_itsT, tri_itsC, tri_iRan, tri_range, tri_iG, tri_enum, tri_comp, tri_tupL, tri_tupT, tri_pure, tri_bind, tri_need, tri_lim, vw, allM, Sl.see, isSto, ixN, atI, SM.all, dLen1]
      refine take_at hm' (by omega) fun m3 y q1 q2 q3 => ?_
      simp only [triF_app]
      simp [tri_runF, triF_seq, triF_nx, triF_rt, triF_bk, triF_ct, triF_ret, triF_if, triF_asg, triF_new, triF_setS, triF_setSt, triF_for, aft_nx, aft_rt, aft_rf, fin_rt, fin_rf, triF_retO, fin_nx, tri_fC, tri_gVar, tri_f2, tri_f1, tri_fL, tri_aN, tri_aC, tri_fTup, tri_lDis, tri_fNew, tri_fNot, tri_fAnd, tri_fOr, tri_fIf, tri_fCh, tri_tT, tri_t2, tri_tYes, tri_tNo, tri_tAnd, tri_tOr, tri_asB, tri_truB, tri_truI, tri_truL, tri_truT, tri_truN, tri_add, tri_sub, tri_lt, tri_le, tri_gt, tri_ge, tri_mod, tri_div, tri_pow, tri_mul, tri_int, tri_len, tri_min, tri_max, tri_eqI, tri_ixL, tri_ixT, tri_ixC, tri_ixS, tri_iSeq, tri_itsL, tri_itsT, tri_itsC, tri_iRan, tri_range, tri_iG, tri_enum, tri_comp, tri_tupL, tri_tupT, tri_pure, tri_bind, tri_need, tri_lim, vw, allM, Sl.see, isSto, ixN, atI, SM.all, dLen1]
      refine ⟨by omega, by omega, lot_comp (n := (w : Int)) q1 (by simp) (by omega) (fun i m hm hi => ?_) last⟩
      simp only [tri_tAnd, tri_t2, tri_f2, tri_gVar]
      refine ⟨_, rfl, _, rfl, ?_⟩
      rw [tri_ixL, Den.atI_nat]
      have hi' : i < cs.length := by omega
      refine ⟨.int cs[i], by simp [hi'], _, rfl, ?_⟩
      simp [tri_runF, triF_seq, triF_nx, triF_rt, triF_bk, triF_ct, triF_ret, triF_if, triF_asg, triF_new, triF_setS, triF_setSt, triF_for, aft_nx, aft_rt, aft_rf, fin_rt, fin_rf, triF_retO, fin_nx, tri_fC, tri_gVar, tri_f2, tri_f1, tri_fL, tri_aN, tri_aC, tri_fTup, tri_lDis, tri_fNew, tri_fNot, tri_fAnd, tri_fOr, tri_fIf, tri_fCh, tri_tT, tri_t2, tri_tYes, tri_tNo, tri_tAnd, tri_tOr, tri_asB, tri_truB, tri_truI, tri_truL, tri_truT, tri_truN, tri_add, tri_sub, tri_lt, tri_le, tri_gt, tri_ge, tri_mod, tri_div, tri_pow, tri_mul, tri_int, tri_len, tri_min, tri_max, tri_eqI, tri_ixL, tri_ixT, tri_ixC, tri_ixS, tri_iSeq, tri_itsL, tri_itsT, tri_itsC, tri_iRan, tri_range, tri_iG, tri_enum, tri_comp, tri_tupL, tri_tupT, tri_pure, tri_bind, tri_need, tri_lim, vw, allM, Sl.see, isSto, ixN, atI, SM.all, dLen1]
      exact hm
    · obtain ⟨hm', L, s6, s7, s8, hl, hL, eρ⟩ := hI
      subst eρ
      have hl' : L.length = h := by simpa using hl
      simp [tri_runF, triF_seq, triF_nx, triF_rt, triF_bk, triF_ct, triF_ret, triF_if, triF_asg, triF_new, triF_setS, triF_setSt, triF_for, aft_nx, aft_rt, aft_rf, fin_rt, fin_rf, triF_retO, fin_nx, tri_fC, tri_gVar, tri_f2, tri_f1, tri_fL, tri_aN, tri_aC, tri_fTup, tri_lDis, tri_fNew, tri_fNot, tri_fAnd, tri_fOr, tri_fIf, tri_fCh, tri_tT, tri_t2, tri_tYes, tri_tNo, tri_tAnd, tri_tOr, tri_asB, tri_truB, tri_truI, tri_truL, tri_truT, tri_truN, tri_add, tri_sub, tri_lt, tri_le, tri_gt, tri_ge, tri_mod, tri_div, tri_pow, tri_mul, tri_int, tri_len, tri_min, tri_max, tri_eqI, tri_ixL, tri_ixT, tri_ixC, tri_ixS, tri_iSeq, tri_itsL, tri_itsT, tri_itsC, tri_iRan, tri_range, tri_iG, tri_enum, tri_comp, tri_tupL, tri_tupT, tri_pure, tri_bind, tri_need, tri_lim, vw, allM, Sl.see, isSto, ixN, atI, SM.all, dLen1]
      subst hl'
      exact of_at hL h1 h2 fun d hd => hP m' d hm' hd
end Hd
set_option Elab.async false
set_option linter.all false
set_option maxRecDepth 100000
set_option maxHeartbeats 4000000
namespace Hd
open PySem PySem.Spec PyProof.Rows L2 Den
theorem twin_at {m : SM} {h w : Nat} {P : D → SM → Prop} (hm : SI m) (h1 : h ≤ 1000) (h2 : w ≤ 1000) (hP : ∀ m' d, SI m' → IsGrid h w d → P d m') : Tri (den__law_twin [.sto, .int h, .int w]) m P := by
  unfold den__law_twin
  simp [tri_runF, triF_seq, triF_nx, triF_rt, triF_bk, triF_ct, triF_ret, triF_if, triF_asg, triF_new, triF_setS, triF_setSt, triF_for, aft_nx, aft_rt, aft_rf, fin_rt, fin_rf, triF_retO, fin_nx, tri_fC, tri_gVar, tri_f2, tri_f1, tri_fL, tri_aN, tri_aC, tri_fTup, tri_lDis, tri_fNew, tri_fNot, tri_fAnd, tri_fOr, tri_fIf, tri_fCh, tri_tT, tri_t2, tri_tYes, tri_tNo, tri_tAnd, tri_tOr, tri_asB, tri_truB, tri_truI, tri_truL, tri_truT, tri_truN, tri_add, tri_sub, tri_lt, tri_le, tri_gt, tri_ge, tri_mod, tri_div, tri_pow, tri_mul, tri_int, tri_len, tri_min, tri_max, tri_eqI, tri_ixL, tri_ixT, tri_ixC, tri_ixS, tri_iSeq, tri_itsL, tri_itsT, tri_itsC, tri_iRan, tri_range, tri_iG, tri_enum, tri_comp, tri_tupL, tri_tupT, tri_pure, tri_bind, tri_need, tri_lim, vw, allM, Sl.see, isSto, ixN, atI, SM.all, dLen1]
  refine take_at hm (by decide) fun m1 z k1 k2 k3 => ?_
  simp [tri_runF, triF_seq, triF_nx, triF_rt, triF_bk, triF_ct, triF_ret, triF_if, triF_asg, triF_new, triF_setS, triF_setSt, triF_for, aft_nx, aft_rt, aft_rf, fin_rt, fin_rf, triF_retO, fin_nx, tri_fC, tri_gVar, tri_f2, tri_f1, tri_fL, tri_aN, tri_aC, tri_fTup, tri_lDis, tri_fNew, tri_fNot, tri_fAnd, tri_fOr, tri_fIf, tri_fCh, tri_tT, tri_t2, tri_tYes, tri_tNo, tri_tAnd, tri_tOr, tri_asB, tri_truB, tri_truI, tri_truL, tri_truT, tri_truN, tri_add, tri_sub, tri_lt, tri_le, tri_gt, tri_ge, tri_mod, tri_div, tri_pow, tri_mul, tri_int, tri_len, tri_min, tri_max, tri_eqI, tri_ixL, tri_ixT, tri_ixC, tri_ixS, tri_iSeq, tri_itsL, tri_itsT, tri_itsC, tri_iRan, tri_range, tri_iG, tri_enum, tri_comp, tri_tupL, tri_tupT, tri_pure, tri_bind, tri_need, tri_lim, vw, allM, Sl.see, isSto, ixN, atI, SM.all, dLen1]
  refine ⟨by omega, by omega, ?_⟩
  refine tri_compE SI (fun d y => IsLot w y) true _ k1 (fun d hd m hm => ?_) fun ys m2 g1 g2 g3 g4 => ?_
  · refine ⟨_, rfl, ?_⟩
    simp [tri_runF, triF_seq, triF_nx, triF_rt, triF_bk, triF_ct, triF_ret, triF_if, triF_asg, triF_new, triF_setS, triF_setSt, triF_for, aft_nx, aft_rt, aft_rf, fin_rt, fin_rf, triF_retO, fin_nx, tri_fC, tri_gVar, tri_f2, tri_f1, tri_fL, tri_aN, tri_aC, tri_fTup, tri_lDis, tri_fNew, tri_fNot, tri_fAnd, tri_fOr, tri_fIf, tri_fCh, tri_tT, tri_t2, tri_tYes, tri_tNo, tri_tAnd, tri_tOr, tri_asB, tri_truB, tri_truI, tri_truL, tri_truT, tri_truN, tri_add, tri_sub, tri_lt, tri_le, tri_gt, tri_ge, tri_mod, tri_div, tri_pow, tri_mul, tri_int, tri_len, tri_min, tri_max, tri_eqI, tri_ixL, tri_ixT, tri_ixC, tri_ixS, tri_iSeq, tri_itsL, tri_itsT, tri_itsC, tri_iRan, tri_range, tri_iG, tri_enum, tri_comp, tri_tupL, tri_tupT, tri_pure, tri_bind, tri_need, tri_lim, vw, allM, Sl.see, isSto, ixN, atI, SM.all, dLen1]
    exact lot_run hm (by omega) (by omega) fun m2 y g1 g2 => ⟨g2, g1⟩
  · have ly : ys.length = (1 + z).toNat := by simpa using g3 rfl
    have hy : ∀ y ∈ ys, IsLot w y := fun y hy => by
      obtain ⟨_, _, q⟩ := g4 y hy
      exact q
    have h0 : ys ≠ [] := fun e => by rw [e] at ly; simp at ly; omega
    have l3 : ys.length ≤ 1000 := by omega
    refine ⟨rfl, by omega, ?_⟩
    refine triF_loop (fun j ρ m' => SI m' ∧ ∃ L s5 s6 s7 s8, L.length = j ∧ (∀ d ∈ L, IsLot w d) ∧ ρ = [.va .sto, .va (.int h), .va (.int w), .va (.lst ys), .ow L, s5, s6, s7, s8]) _ 0 _ m2 ⟨g1, [], _, _, _, _, rfl, by simp, rfl⟩ (fun j d ρ m' hd hI => ?_) (fun ρ m' hI => ?_)
    · obtain ⟨hm', L, s5, s6, s7, s8, hl, hL, eρ⟩ := hI
      subst eρ
      obtain ⟨hj, ed⟩ := ran_at hd
      refine ⟨_, rfl, ?_⟩
      simp only [triF_seq, triF_asg]
      simp [tri_runF, triF_seq, triF_nx, triF_rt, triF_bk, triF_ct, triF_ret, triF_if, triF_asg, triF_new, triF_setS, triF_setSt, triF_for, aft_nx, aft_rt, aft_rf, fin_rt, fin_rf, triF_retO, fin_nx, tri_fC, tri_gVar, tri_f2, tri_f1, tri_fL, tri_aN, tri_aC, tri_fTup, tri_lDis, tri_fNew, tri_fNot, tri_fAnd, tri_fOr, tri_fIf, tri_fCh, tri_tT, tri_t2, tri_tYes, tri_tNo, tri_tAnd, tri_tOr, tri_asB, tri_truB, tri_truI, tri_truL, tri_truT, tri_truN, tri_add, tri_sub, tri_lt, tri_le, tri_gt, tri_ge, tri_mod, tri_div, tri_pow, tri_mul, tri_int, tri_len, tri_min, tri_max, tri_eqI, tri_ixL, tri_ixT, tri_ixC, tri_ixS, tri_iSeq, tri_itsL, tri_itsT, tri_itsC, tri_iRan, tri_range, tri_iG, tri_enum, tri_comp, tri_tupL, tri_tupT, tri_pure, tri_bind, tri_need, tri_lim, vw, allM, Sl.see, isSto, ixN, atI, SM.all, dLen1]
      refine take_at hm' (by decide) fun m3 y q1 q2 q3 => ?_
      refine pick_at q1 h0 l3 fun m4 lot p1 p2 => ?_
      have lp := hy lot p2
      have last : ∀ (lot : D) (m : SM), SI m → IsLot w lot → L.length ≤ 16777215 ∧ SI m ∧ L.length = j ∧ ∀ (d : D), d ∈ L ∨ d = lot → IsLot w d := fun lot m hm hlot => ⟨by omega, hm, by omega, fun x hx => hx.elim (hL x) fun e => by rw [e]; exact hlot⟩
      simp only [triF_app]
      simp [tri_runF, triF_seq, triF_nx, triF_rt, triF_bk, triF_ct, triF_ret, triF_if, triF_asg, triF_new, triF_setS, triF_setSt, triF_for, aft_nx, aft_rt, aft_rf, fin_rt, fin_rf, triF_retO, fin_nx, tri_fC, tri_gVar, tri_f2, tri_f1, tri_fL, tri_aN, tri_aC, tri_fTup, tri_lDis, tri_fNew, tri_fNot, tri_fAnd, tri_fOr, tri_fIf, tri_fCh, tri_tT, tri_t2, tri_tYes, tri_tNo, tri_tAnd, tri_tOr, tri_asB, tri_truB, tri_truI, tri_truL, tri_truT, tri_truN, tri_add, tri_sub, tri_lt, tri_le, tri_gt, tri_ge, tri_mod, tri_div, tri_pow, tri_mul, tri_int, tri_len, tri_min, tri_max, tri_eqI, tri_ixL, tri_ixT, tri_ixC, tri_ixS, tri_iSeq, tri_itsL, tri_itsT, tri_itsC, tri_iRan, tri_range, tri_iG, tri_enum, tri_comp, tri_tupL, tri_tupT, tri_pure, tri_bind, tri_need, tri_lim, vw, allM, Sl.see, isSto, ixN, atI, SM.all, dLen1]
      have tail : ∀ (lot : D) (m : SM), SI m → IsLot w lot → (if y = 1 then Tri (den__law_take [D.sto, D.int 3]) m fun x m => Tri (dEq x (D.int 0)) m fun z m => Tri (asB z) m fun b m =>
            if b = true then L.length ≤ 16777215 ∧ SI m ∧ L.length = j ∧ ∀ (d : D), d ∈ L ∨ d = .tup [] → IsLot w d
            else L.length ≤ 16777215 ∧ SI m ∧ L.length = j ∧ ∀ (d : D), d ∈ L ∨ d = lot → IsLot w d
          else L.length ≤ 16777215 ∧ SI m ∧ L.length = j ∧ ∀ (d : D), d ∈ L ∨ d = lot → IsLot w d) := fun lot m hm hlot => by
        split
        · refine take_at hm (by decide) fun m5 x r1 r2 r3 => ?_
          simp [tri_runF, triF_seq, triF_nx, triF_rt, triF_bk, triF_ct, triF_ret, triF_if, triF_asg, triF_new, triF_setS, triF_setSt, triF_for, aft_nx, aft_rt, aft_rf, fin_rt, fin_rf, triF_retO, fin_nx, tri_fC, tri_gVar, tri_f2, tri_f1, tri_fL, tri_aN, tri_aC, tri_fTup, tri_lDis, tri_fNew, tri_fNot, tri_fAnd, tri_fOr, tri_fIf, tri_fCh, tri_tT, tri_t2, tri_tYes, tri_tNo, tri_tAnd, tri_tOr, tri_asB, tri_truB, tri_truI, tri_truL, tri_truT, tri_truN, tri_add, tri_sub, tri_lt, tri_le, tri_gt, tri_ge, tri_mod, tri_div, tri_pow, tri_mul, tri_int, tri_len, tri_min, tri_max, tri_eqI, tri_ixL, tri_ixT, tri_ixC, tri_ixS, tri_iSeq, tri_itsL, tri_itsT, tri_itsC, tri_iRan, tri_range, tri_iG, tri_enum, tri_comp, tri_tupL, tri_tupT, tri_pure, tri_bind, tri_need, tri_lim, vw, allM, Sl.see, isSto, ixN, atI, SM.all, dLen1]
          split
          · exact last _ m5 r1 nil_lot
          · exact last _ m5 r1 hlot
        · exact last _ m hm hlot
      split
      · refine pick_at p1 h0 l3 fun m5 lot2 r1 r2 => ?_
        have hj2 : ∀ d ∈ [lot, lot2], IsLot w d := fun d hd => by
          rcases List.mem_cons.mp hd with e | hd
          · rw [e]; exact lp
          · rw [List.mem_singleton.mp hd]; exact hy lot2 r2
        refine join_run (fun d hd => (hj2 d hd).its) (by simp) ?_
        have := tail _ m5 r1 (join_lot hj2)
        exact this
      · exact tail lot m4 p1 lp
    · obtain ⟨hm', L, s5, s6, s7, s8, hl, hL, eρ⟩ := hI
      subst eρ
      have hl' : L.length = h := by simpa using hl
      simp [tri_runF, triF_seq, triF_nx, triF_rt, triF_bk, triF_ct, triF_ret, triF_if, triF_asg, triF_new, triF_setS, triF_setSt, triF_for, aft_nx, aft_rt, aft_rf, fin_rt, fin_rf, triF_retO, fin_nx, tri_fC, tri_gVar, tri_f2, tri_f1, tri_fL, tri_aN, tri_aC, tri_fTup, tri_lDis, tri_fNew, tri_fNot, tri_fAnd, tri_fOr, tri_fIf, tri_fCh, tri_tT, tri_t2, tri_tYes, tri_tNo, tri_tAnd, tri_tOr, tri_asB, tri_truB, tri_truI, tri_truL, tri_truT, tri_truN, tri_add, tri_sub, tri_lt, tri_le, tri_gt, tri_ge, tri_mod, tri_div, tri_pow, tri_mul, tri_int, tri_len, tri_min, tri_max, tri_eqI, tri_ixL, tri_ixT, tri_ixC, tri_ixS, tri_iSeq, tri_itsL, tri_itsT, tri_itsC, tri_iRan, tri_range, tri_iG, tri_enum, tri_comp, tri_tupL, tri_tupT, tri_pure, tri_bind, tri_need, tri_lim, vw, allM, Sl.see, isSto, ixN, atI, SM.all, dLen1]
      subst hl'
      exact of_at hL h1 h2 fun d hd => hP m' d hm' hd
theorem every_lot (w : Nat) (hw : w ≤ 1000) : IsLot w (.tup ((List.range w).map fun i : Nat => D.int (i : Int))) :=
  ⟨(List.range w).map fun i : Nat => (i : Int), by simp, fun k hk => by
    obtain ⟨i, hi, e⟩ := List.mem_map.mp hk
    have := List.mem_range.mp hi
    omega, by simpa using hw⟩
end Hd
set_option Elab.async false
set_option linter.all false
set_option maxRecDepth 100000
set_option maxHeartbeats 4000000
namespace Den
open PySem PySem.Spec PyProof.Rows L2
theorem triF_mov {m : SM} {P : Fl → SM → Prop} {ρ : SV} {io il : Nat} {F : EV → M D} {xs ys : List D} (h1 : ρ[io]? = some (.ow xs)) (h2 : ρ[il]? = some (.ow ys)) (hne : io ≠ il)
    (h : Tri (F (vw (allM ρ) ρ)) m fun d m => ∃ (j : Int) (k : Nat) (y : D), d = .int j ∧ seqIndex? j ys.length = some k ∧ ys[k]? = some y ∧ -(2 ^ 63) ≤ j ∧ j < 2 ^ 63 ∧ xs.length + 1 ≤ 16777216 ∧ P (.nx ((ρ.set il (.ow (ys.eraseIdx k))).set io (.ow (xs ++ [y])))) m) : TriF (gMov io il F ρ) m P := by
  unfold gMov
  have c : (isOw io ρ && isOw il ρ) = true := by simp [isOw, h1, h2]
  rw [if_pos c, triF_exB]
  refine h.mono fun d m ⟨j, k, y, e, e1, e2, b1, b2, b3, p⟩ => ?_
  subst e
  unfold movD
  rw [h1, h2]
  simp only [e1, e2]
  rw [if_pos ⟨b1, b2, hne⟩, triF_lim, triF_nx]
  exact ⟨b3, p⟩
end Den
namespace Hd
open PySem PySem.Spec PyProof.Rows L2 Den
theorem perm_erase {α : Type} : ∀ {xs : List α} {k : Nat} {y : α}, xs[k]? = some y → (y :: xs.eraseIdx k).Perm xs
  | [], _, _, h => by simp at h
  | x :: xs, 0, y, h => by
    simp at h
    subst h
    exact List.Perm.refl _
  | x :: xs, k + 1, y, h => by
    have h' : xs[k]? = some y := by simpa using h
    exact (List.Perm.swap _ _ _).trans ((perm_erase h').cons x)
theorem shuffle_at {m : SM} {xs : List D} {P : D → SM → Prop} (hm : SI m) (hl : xs.length ≤ 1000) (h : ∀ m' ys, SI m' → ys.Perm xs → P (.lst ys) m') : Tri (den__law_shuffle [.sto, .lst xs]) m P := by
  unfold den__law_shuffle
  simp [tri_runF, triF_seq, triF_nx, triF_rt, triF_bk, triF_ct, triF_ret, triF_if, triF_asg, triF_new, triF_setS, triF_setSt, triF_for, aft_nx, aft_rt, aft_rf, fin_rt, fin_rf, triF_retO, fin_nx, tri_fC, tri_gVar, tri_f2, tri_f1, tri_fL, tri_aN, tri_aC, tri_fTup, tri_lDis, tri_fNew, tri_fNot, tri_fAnd, tri_fOr, tri_fIf, tri_fCh, tri_tT, tri_t2, tri_tYes, tri_tNo, tri_tAnd, tri_tOr, tri_asB, tri_truB, tri_truI, tri_truL, tri_truT, tri_truN, tri_add, tri_sub, tri_lt, tri_le, tri_gt, tri_ge, tri_mod, tri_div, tri_pow, tri_mul, tri_int, tri_len, tri_min, tri_max, tri_eqI, tri_ixL, tri_ixT, tri_ixC, tri_ixS, tri_iSeq, tri_itsL, tri_itsT, tri_itsC, tri_iRan, tri_range, tri_iG, tri_enum, tri_comp, tri_tupL, tri_tupT, tri_pure, tri_bind, tri_need, tri_lim, vw, allM, Sl.see, isSto, ixN, atI, SM.all, dLen1]
  refine ⟨by omega, tri_compM (fun d => d) _ (fun d hd => ⟨_, rfl, ?_⟩) ?_⟩
  · rw [tri_gVar]; exact ⟨_, rfl, rfl, rfl⟩
  rw [List.map_id']
  refine ⟨rfl, rfl, by omega, ?_⟩
  refine triF_loop (fun j ρ m' => SI m' ∧ ∃ L O s4 s5, L.length + j = xs.length ∧ O.length = j ∧ (O ++ L).Perm xs ∧ ρ = [.va .sto, .va (.lst xs), .ow L, .ow O, s4, s5]) _ 0 _ m ⟨hm, xs, [], _, _, rfl, rfl, List.Perm.refl _, rfl⟩ (fun j d ρ m' hd hI => ?_) (fun ρ m' hI => ?_)
  · obtain ⟨hm', L, O, s4, s5, l1, l2, hp, eρ⟩ := hI
    subst eρ
    obtain ⟨hj, ed⟩ := ran_at hd
    refine ⟨_, rfl, ?_⟩
    refine triF_mov (xs := O) (ys := L) rfl rfl (by decide) ?_
    simp [tri_runF, triF_seq, triF_nx, triF_rt, triF_bk, triF_ct, triF_ret, triF_if, triF_asg, triF_new, triF_setS, triF_setSt, triF_for, aft_nx, aft_rt, aft_rf, fin_rt, fin_rf, triF_retO, fin_nx, tri_fC, tri_gVar, tri_f2, tri_f1, tri_fL, tri_aN, tri_aC, tri_fTup, tri_lDis, tri_fNew, tri_fNot, tri_fAnd, tri_fOr, tri_fIf, tri_fCh, tri_tT, tri_t2, tri_tYes, tri_tNo, tri_tAnd, tri_tOr, tri_asB, tri_truB, tri_truI, tri_truL, tri_truT, tri_truN, tri_add, tri_sub, tri_lt, tri_le, tri_gt, tri_ge, tri_mod, tri_div, tri_pow, tri_mul, tri_int, tri_len, tri_min, tri_max, tri_eqI, tri_ixL, tri_ixT, tri_ixC, tri_ixS, tri_iSeq, tri_itsL, tri_itsT, tri_itsC, tri_iRan, tri_range, tri_iG, tri_enum, tri_comp, tri_tupL, tri_tupT, tri_pure, tri_bind, tri_need, tri_lim, vw, allM, Sl.see, isSto, ixN, atI, SM.all, dLen1]
    refine take_at hm' (by omega) fun m2 z q1 q2 q3 => ?_
    have hz : z.toNat < L.length := by omega
    have ix : seqIndex? z L.length = some z.toNat := by
      unfold seqIndex?
      rw [if_neg (show ¬ z < 0 by omega)]
      simp; omega
    refine ⟨z, rfl, z.toNat, ix, L[z.toNat], List.getElem?_eq_getElem hz, by omega, by omega, by omega, q1, L.eraseIdx z.toNat, ?_, ?_⟩
    · rw [List.length_eraseIdx_of_lt hz]; omega
    · refine ⟨O ++ [L[z.toNat]], by simp; omega, ?_, rfl, rfl⟩
      rw [List.append_assoc]
      exact ((perm_erase (List.getElem?_eq_getElem hz)).append_left O).trans hp
  · obtain ⟨hm', L, O, s4, s5, l1, l2, hp, eρ⟩ := hI
    subst eρ
    have l0 : L = [] := by simpa using l1
    subst l0
    simp [tri_runF, triF_seq, triF_nx, triF_rt, triF_bk, triF_ct, triF_ret, triF_if, triF_asg, triF_new, triF_setS, triF_setSt, triF_for, aft_nx, aft_rt, aft_rf, fin_rt, fin_rf, triF_retO, fin_nx, tri_fC, tri_gVar, tri_f2, tri_f1, tri_fL, tri_aN, tri_aC, tri_fTup, tri_lDis, tri_fNew, tri_fNot, tri_fAnd, tri_fOr, tri_fIf, tri_fCh, tri_tT, tri_t2, tri_tYes, tri_tNo, tri_tAnd, tri_tOr, tri_asB, tri_truB, tri_truI, tri_truL, tri_truT, tri_truN, tri_add, tri_sub, tri_lt, tri_le, tri_gt, tri_ge, tri_mod, tri_div, tri_pow, tri_mul, tri_int, tri_len, tri_min, tri_max, tri_eqI, tri_ixL, tri_ixT, tri_ixC, tri_ixS, tri_iSeq, tri_itsL, tri_itsT, tri_itsC, tri_iRan, tri_range, tri_iG, tri_enum, tri_comp, tri_tupL, tri_tupT, tri_pure, tri_bind, tri_need, tri_lim, vw, allM, Sl.see, isSto, ixN, atI, SM.all, dLen1]
    exact h m' O hm' (by simpa using hp)
end Hd
set_option Elab.async false
set_option linter.all false
set_option maxRecDepth 100000
set_option maxHeartbeats 4000000
namespace Hd
open PySem PySem.Spec PyProof.Rows L2 Den
/-- a tuple of n ints in which each number below n lies -/
structure IsPlc (n : Nat) (d : D) : Prop where
  ex : ∃ ks : List Int, d = .tup (ks.map .int) ∧ ks.length = n ∧ ∀ i : Nat, i < n → (i : Int) ∈ ks
theorem plc_map {n : Nat} (f : Nat → Int) (h : ∀ i : Nat, i < n → ∃ k : Nat, k < n ∧ f k = i) : IsPlc n (.tup ((List.range n).map fun k : Nat => D.int (f k))) :=
  ⟨(List.range n).map f, by simp, by simp, fun i hi => by
    obtain ⟨k, hk, e⟩ := h i hi
    exact List.mem_map.mpr ⟨k, List.mem_range.mpr hk, e⟩⟩
theorem placing_at {m : SM} {n : Nat} {P : D → SM → Prop} (hm : SI m) (hn : n ≤ 1000) (h : ∀ m' d, SI m' → IsPlc n d → P d m') : Tri (den__law_placing [.sto, .int n]) m P := by
  unfold den__law_placing
  simp [tri_runF, triF_seq, triF_nx, triF_rt, triF_bk, triF_ct, triF_ret, triF_if, triF_asg, triF_new, triF_setS, triF_setSt, triF_for, aft_nx, aft_rt, aft_rf, fin_rt, fin_rf, triF_retO, fin_nx, tri_fC, tri_gVar, tri_f2, tri_f1, tri_fL, tri_aN, tri_aC, tri_fTup, tri_lDis, tri_fNew, tri_fNot, tri_fAnd, tri_fOr, tri_fIf, tri_fCh, tri_tT, tri_t2, tri_tYes, tri_tNo, tri_tAnd, tri_tOr, tri_asB, tri_truB, tri_truI, tri_truL, tri_truT, tri_truN, tri_add, tri_sub, tri_lt, tri_le, tri_gt, tri_ge, tri_mod, tri_div, tri_pow, tri_mul, tri_int, tri_len, tri_min, tri_max, tri_eqI, tri_ixL, tri_ixT, tri_ixC, tri_ixS, tri_iSeq, tri_itsL, tri_itsT, tri_itsC, tri_iRan, tri_range, tri_iG, tri_enum, tri_comp, tri_tupL, tri_tupT, tri_pure, tri_bind, tri_need, tri_lim, vw, allM, Sl.see, isSto, ixN, atI, SM.all, dLen1]
  refine take_at hm (by decide) fun m1 z k1 k2 k3 => ?_
  simp [tri_runF, triF_seq, triF_nx, triF_rt, triF_bk, triF_ct, triF_ret, triF_if, triF_asg, triF_new, triF_setS, triF_setSt, triF_for, aft_nx, aft_rt, aft_rf, fin_rt, fin_rf, triF_retO, fin_nx, tri_fC, tri_gVar, tri_f2, tri_f1, tri_fL, tri_aN, tri_aC, tri_fTup, tri_lDis, tri_fNew, tri_fNot, tri_fAnd, tri_fOr, tri_fIf, tri_fCh, tri_tT, tri_t2, tri_tYes, tri_tNo, tri_tAnd, tri_tOr, tri_asB, tri_truB, tri_truI, tri_truL, tri_truT, tri_truN, tri_add, tri_sub, tri_lt, tri_le, tri_gt, tri_ge, tri_mod, tri_div, tri_pow, tri_mul, tri_int, tri_len, tri_min, tri_max, tri_eqI, tri_ixL, tri_ixT, tri_ixC, tri_ixS, tri_iSeq, tri_itsL, tri_itsT, tri_itsC, tri_iRan, tri_range, tri_iG, tri_enum, tri_comp, tri_tupL, tri_tupT, tri_pure, tri_bind, tri_need, tri_lim, vw, allM, Sl.see, isSto, ixN, atI, SM.all, dLen1]
  split
  · refine ⟨by omega, by omega, tri_compM (fun d => d) _ (fun d hd => ⟨_, rfl, ?_⟩) ?_⟩
    · rw [tri_gVar]; exact ⟨_, rfl, rfl, rfl⟩
    · rw [List.map_id']
      exact h m1 _ k1 (plc_map (fun k => (k : Int)) fun i hi => ⟨i, hi, rfl⟩)
  split
  · refine ⟨by omega, by omega, tri_compM (fun d => match d with | .int k => .int ((k + 1) % n) | _ => .non) _ (fun d hd => ?_) ?_⟩
    · obtain ⟨i, hi, e⟩ := List.mem_map.mp hd
      subst e
      have := List.mem_range.mp hi
      refine ⟨_, rfl, ?_⟩
      simp [tri_runF, triF_seq, triF_nx, triF_rt, triF_bk, triF_ct, triF_ret, triF_if, triF_asg, triF_new, triF_setS, triF_setSt, triF_for, aft_nx, aft_rt, aft_rf, fin_rt, fin_rf, triF_retO, fin_nx, tri_fC, tri_gVar, tri_f2, tri_f1, tri_fL, tri_aN, tri_aC, tri_fTup, tri_lDis, tri_fNew, tri_fNot, tri_fAnd, tri_fOr, tri_fIf, tri_fCh, tri_tT, tri_t2, tri_tYes, tri_tNo, tri_tAnd, tri_tOr, tri_asB, tri_truB, tri_truI, tri_truL, tri_truT, tri_truN, tri_add, tri_sub, tri_lt, tri_le, tri_gt, tri_ge, tri_mod, tri_div, tri_pow, tri_mul, tri_int, tri_len, tri_min, tri_max, tri_eqI, tri_ixL, tri_ixT, tri_ixC, tri_ixS, tri_iSeq, tri_itsL, tri_itsT, tri_itsC, tri_iRan, tri_range, tri_iG, tri_enum, tri_comp, tri_tupL, tri_tupT, tri_pure, tri_bind, tri_need, tri_lim, vw, allM, Sl.see, isSto, ixN, atI, SM.all, dLen1]
      omega
    · rw [List.map_map]
      exact h m1 _ k1 (plc_map (fun k => ((k : Int) + 1) % n) fun i hi => by
        by_cases h0 : i = 0
        · refine ⟨n - 1, by omega, ?_⟩
          rw [h0, show (((n - 1 : Nat) : Int) + 1) = n by omega]
          simp
        · refine ⟨i - 1, by omega, ?_⟩
          rw [show (((i - 1 : Nat) : Int) + 1) = i by omega]
          exact Int.emod_eq_of_lt (by omega) (by omega))
  split
  · refine ⟨by omega, by omega, tri_compM (fun d => match d with | .int k => .int (n - 1 - k) | _ => .non) _ (fun d hd => ?_) ?_⟩
    · obtain ⟨i, hi, e⟩ := List.mem_map.mp hd
      subst e
      refine ⟨_, rfl, ?_⟩
      simp [tri_runF, triF_seq, triF_nx, triF_rt, triF_bk, triF_ct, triF_ret, triF_if, triF_asg, triF_new, triF_setS, triF_setSt, triF_for, aft_nx, aft_rt, aft_rf, fin_rt, fin_rf, triF_retO, fin_nx, tri_fC, tri_gVar, tri_f2, tri_f1, tri_fL, tri_aN, tri_aC, tri_fTup, tri_lDis, tri_fNew, tri_fNot, tri_fAnd, tri_fOr, tri_fIf, tri_fCh, tri_tT, tri_t2, tri_tYes, tri_tNo, tri_tAnd, tri_tOr, tri_asB, tri_truB, tri_truI, tri_truL, tri_truT, tri_truN, tri_add, tri_sub, tri_lt, tri_le, tri_gt, tri_ge, tri_mod, tri_div, tri_pow, tri_mul, tri_int, tri_len, tri_min, tri_max, tri_eqI, tri_ixL, tri_ixT, tri_ixC, tri_ixS, tri_iSeq, tri_itsL, tri_itsT, tri_itsC, tri_iRan, tri_range, tri_iG, tri_enum, tri_comp, tri_tupL, tri_tupT, tri_pure, tri_bind, tri_need, tri_lim, vw, allM, Sl.see, isSto, ixN, atI, SM.all, dLen1]
    · rw [List.map_map]
      exact h m1 _ k1 (plc_map (fun k => (n : Int) - 1 - k) fun i hi => ⟨n - 1 - i, by omega, by omega⟩)
  · refine ⟨by omega, by omega, tri_compM (fun d => d) _ (fun d hd => ⟨_, rfl, ?_⟩) ?_⟩
    · rw [tri_gVar]; exact ⟨_, rfl, rfl, rfl⟩
    · rw [List.map_id']
      refine shuffle_at k1 (by simpa using hn) fun m2 ys q1 q2 => ?_
      simp [tri_runF, triF_seq, triF_nx, triF_rt, triF_bk, triF_ct, triF_ret, triF_if, triF_asg, triF_new, triF_setS, triF_setSt, triF_for, aft_nx, aft_rt, aft_rf, fin_rt, fin_rf, triF_retO, fin_nx, tri_fC, tri_gVar, tri_f2, tri_f1, tri_fL, tri_aN, tri_aC, tri_fTup, tri_lDis, tri_fNew, tri_fNot, tri_fAnd, tri_fOr, tri_fIf, tri_fCh, tri_tT, tri_t2, tri_tYes, tri_tNo, tri_tAnd, tri_tOr, tri_asB, tri_truB, tri_truI, tri_truL, tri_truT, tri_truN, tri_add, tri_sub, tri_lt, tri_le, tri_gt, tri_ge, tri_mod, tri_div, tri_pow, tri_mul, tri_int, tri_len, tri_min, tri_max, tri_eqI, tri_ixL, tri_ixT, tri_ixC, tri_ixS, tri_iSeq, tri_itsL, tri_itsT, tri_itsC, tri_iRan, tri_range, tri_iG, tri_enum, tri_comp, tri_tupL, tri_tupT, tri_pure, tri_bind, tri_need, tri_lim, vw, allM, Sl.see, isSto, ixN, atI, SM.all, dLen1]
      refine h m2 _ q1 ?_
      obtain ⟨ks, e, _⟩ := ints_of (p := fun _ => True) (ys := ys) fun y hy => by
        obtain ⟨i, _, e⟩ := List.mem_map.mp (q2.mem_iff.mp hy)
        exact ⟨i, e.symm, trivial⟩
      subst e
      refine ⟨ks, rfl, by simpa using q2.length_eq, fun i hi => ?_⟩
      have hmem : D.int (i : Int) ∈ ks.map D.int := q2.mem_iff.mpr (List.mem_map.mpr ⟨i, List.mem_range.mpr hi, rfl⟩)
      obtain ⟨k, hk, e⟩ := List.mem_map.mp hmem
      cases e
      exact hk
theorem D.ints_map : ∀ ks : List Int, D.ints (ks.map D.int) = some ks
  | [] => rfl
  | k :: ks => by rw [List.map_cons, D.ints, D.ints_map ks]; rfl
theorem index_at {m : SM} {ρ : EV} {F : EV → M D} {A : EV → M (List D)} {ks : List Int} {k : Int} {P : D → SM → Prop} (hF : Tri (F ρ) m fun d m' => d = .tup (ks.map .int) ∧ m' = m) (hA : Tri (A ρ) m fun ds m' => ds = [.int k] ∧ m' = m) (hk : k ∈ ks)
    (h : ∀ j : Nat, j < ks.length → P (.int j) m) : Tri (gIndex F A ρ) m P := by
  unfold gIndex
  simp only [tri_bind, tri_need]
  refine hF.mono fun d m1 ⟨e, e1⟩ => ?_
  subst e e1
  refine ⟨rfl, hA.mono fun ds m1 ⟨e, e1⟩ => ?_⟩
  subst e e1
  show Tri (dIndexI (.tup (ks.map .int)) (.int k)) _ P
  unfold dIndexI
  rw [tri_ofO, D.ints_map]
  cases e : ks.findIdx? (· == k) with
  | none =>
    have := List.findIdx?_eq_none_iff.mp e k hk
    simp at this
  | some j =>
    obtain ⟨hj, _⟩ := List.findIdx?_eq_some_iff_getElem.mp e
    refine ⟨.int j, ?_, h j hj⟩
    show ((some ks).bind fun ns => (ns.findIdx? (· == k)).map fun j => D.int (j : Nat)) = _
    rw [Option.bind_some, e]; rfl
theorem placed_at {m : SM} {n : Nat} {g p : D} {P : D → SM → Prop} (hg : IsGrid n n g) (hp : IsPlc n p) (hn : n ≤ 1000) (h : ∀ d, IsGrid n n d → P d m) : Tri (den__law_placed [g, p]) m P := by
  obtain ⟨rows, a, b, eg⟩ := hg.ex
  obtain ⟨ks, ep, lk, hk⟩ := hp.ex
  subst eg ep
  unfold den__law_placed gridD
  simp [tri_runF, triF_seq, triF_nx, triF_rt, triF_bk, triF_ct, triF_ret, triF_if, triF_asg, triF_new, triF_setS, triF_setSt, triF_for, aft_nx, aft_rt, aft_rf, fin_rt, fin_rf, triF_retO, fin_nx, tri_fC, tri_gVar, tri_f2, tri_f1, tri_fL, tri_aN, tri_aC, tri_fTup, tri_lDis, tri_fNew, tri_fNot, tri_fAnd, tri_fOr, tri_fIf, tri_fCh, tri_tT, tri_t2, tri_tYes, tri_tNo, tri_tAnd, tri_tOr, tri_asB, tri_truB, tri_truI, tri_truL, tri_truT, tri_truN, tri_add, tri_sub, tri_lt, tri_le, tri_gt, tri_ge, tri_mod, tri_div, tri_pow, tri_mul, tri_int, tri_len, tri_min, tri_max, tri_eqI, tri_ixL, tri_ixT, tri_ixC, tri_ixS, tri_iSeq, tri_itsL, tri_itsT, tri_itsC, tri_iRan, tri_range, tri_iG, tri_enum, tri_comp, tri_tupL, tri_tupT, tri_pure, tri_bind, tri_need, tri_lim, vw, allM, Sl.see, isSto, ixN, atI, SM.all, dLen1]
  refine ⟨by omega, by omega, ?_⟩
  refine tri_compE (fun m' => m' = m) (fun d y => ∃ j : Nat, j < n ∧ y = .int j) true _ rfl (fun d hd m' em => ?_) fun ys m2 em _ l3 l4 => ?_
  · obtain ⟨i, hi, e⟩ := List.mem_map.mp hd
    have hi := List.mem_range.mp hi
    subst e em
    refine ⟨_, rfl, ?_⟩
    rw [tri_tYes, if_pos rfl]
    refine index_at (ks := ks) (k := (i : Int)) ?_ ?_ (hk i (by omega)) fun j hj => ⟨⟨j, by omega, rfl⟩, rfl⟩
    · rw [tri_gVar]; exact ⟨_, rfl, rfl, rfl⟩
    · rw [tri_aC, tri_gVar]; exact ⟨_, rfl, tri_aN.mpr ⟨rfl, rfl⟩⟩
  subst em
  have ly : ys.length = n := by simpa [lk] using l3 rfl
  have hy : ∀ i : Nat, i < n → ∃ j : Nat, j < n ∧ ys[i]? = some (.int j) := fun i hi => by
    have hlt : i < ys.length := by omega
    obtain ⟨d, _, j, hj, e⟩ := l4 ys[i] (List.getElem_mem hlt)
    exact ⟨j, hj, by rw [List.getElem?_eq_getElem hlt, e]⟩
  refine ⟨rfl, by omega, ?_⟩
  refine triF_loop (fun j ρ m' => m' = m2 ∧ ∃ L s4 s5, L.length = j ∧ (∀ d ∈ L, IsLot n d) ∧ ρ = [.va (.tup [.str "table", .int n, .int n, .tup (rows.map fun r => .tup (r.map .bl))]), .va (.tup (ks.map .int)), .va (.lst ys), .ow L, s4, s5]) _ 0 _ m2 ⟨rfl, [], _, _, rfl, by simp, rfl⟩ (fun j d ρ m' hd hI => ?_) (fun ρ m' hI => ?_)
  · obtain ⟨em, L, s4, s5, hl, hL, eρ⟩ := hI
    subst eρ em
    obtain ⟨hj, ed⟩ := ran_at hd
    subst ed
    refine ⟨_, rfl, ?_⟩
    rw [triF_app]
    refine ⟨_, rfl, ?_⟩
    simp [tri_runF, triF_seq, triF_nx, triF_rt, triF_bk, triF_ct, triF_ret, triF_if, triF_asg, triF_new, triF_setS, triF_setSt, triF_for, aft_nx, aft_rt, aft_rf, fin_rt, fin_rf, triF_retO, fin_nx, tri_fC, tri_gVar, tri_f2, tri_f1, tri_fL, tri_aN, tri_aC, tri_fTup, tri_lDis, tri_fNew, tri_fNot, tri_fAnd, tri_fOr, tri_fIf, tri_fCh, tri_tT, tri_t2, tri_tYes, tri_tNo, tri_tAnd, tri_tOr, tri_asB, tri_truB, tri_truI, tri_truL, tri_truT, tri_truN, tri_add, tri_sub, tri_lt, tri_le, tri_gt, tri_ge, tri_mod, tri_div, tri_pow, tri_mul, tri_int, tri_len, tri_min, tri_max, tri_eqI, tri_ixL, tri_ixT, tri_ixC, tri_ixS, tri_iSeq, tri_itsL, tri_itsT, tri_itsC, tri_iRan, tri_range, tri_iG, tri_enum, tri_comp, tri_tupL, tri_tupT, tri_pure, tri_bind, tri_need, tri_lim, vw, allM, Sl.see, isSto, ixN, atI, SM.all, dLen1]
    refine ⟨by omega, by omega, ?_⟩
    obtain ⟨bj, hbj, eb⟩ := hy j (by omega)
    refine tri_compE (fun m'' => m'' = m') (fun d y => y = d) false _ rfl (fun d hd m'' em => ?_) fun ds m3 em ll _ l4 => ?_
    · obtain ⟨i, hi, e⟩ := List.mem_map.mp hd
      have hi := List.mem_range.mp hi
      subst e em
      refine ⟨_, rfl, ?_⟩
      obtain ⟨bi, hbi, ei⟩ := hy i (by omega)
      have hr : bj < rows.length := by omega
      have hrr : bi < rows[bj].length := by rw [b _ (List.getElem_mem hr)]; exact hbi
      simp only [tri_tT, tri_f2, tri_gVar, tri_fC]
      refine ⟨_, rfl, ?_⟩
      rw [tri_ixT]
      refine ⟨_, rfl, _, rfl, _, rfl, ?_⟩
      rw [tri_ixL, Den.atI_nat]
      refine ⟨_, eb, ?_⟩
      rw [tri_ixT, Den.atI_nat]
      refine ⟨.tup (rows[bj].map .bl), by simp [hr], _, rfl, _, rfl, ?_⟩
      rw [tri_ixL, Den.atI_nat]
      refine ⟨_, ei, ?_⟩
      rw [tri_ixT, Den.atI_nat]
      refine ⟨.bl rows[bj][bi], by simp [hrr], ?_⟩
      rw [tri_truB]
      split
      · exact ⟨_, rfl, rfl, rfl⟩
      · first | exact ⟨rfl, rfl⟩ | exact ⟨trivial, rfl⟩
    · subst em
      have q2 : IsLot n (.tup ds) := lot_of (by simp at ll; omega) fun y hy => by
        have := l4 y hy
        simpa [lk] using this
      exact ⟨by omega, rfl, by omega, fun x hx => hx.elim (hL x) fun e => by rw [e]; exact q2⟩
  · obtain ⟨em, L, s4, s5, hl, hL, eρ⟩ := hI
    subst eρ em
    have hl' : L.length = n := by simpa [lk] using hl
    simp [tri_runF, triF_seq, triF_nx, triF_rt, triF_bk, triF_ct, triF_ret, triF_if, triF_asg, triF_new, triF_setS, triF_setSt, triF_for, aft_nx, aft_rt, aft_rf, fin_rt, fin_rf, triF_retO, fin_nx, tri_fC, tri_gVar, tri_f2, tri_f1, tri_fL, tri_aN, tri_aC, tri_fTup, tri_lDis, tri_fNew, tri_fNot, tri_fAnd, tri_fOr, tri_fIf, tri_fCh, tri_tT, tri_t2, tri_tYes, tri_tNo, tri_tAnd, tri_tOr, tri_asB, tri_truB, tri_truI, tri_truL, tri_truT, tri_truN, tri_add, tri_sub, tri_lt, tri_le, tri_gt, tri_ge, tri_mod, tri_div, tri_pow, tri_mul, tri_int, tri_len, tri_min, tri_max, tri_eqI, tri_ixL, tri_ixT, tri_ixC, tri_ixS, tri_iSeq, tri_itsL, tri_itsT, tri_itsC, tri_iRan, tri_range, tri_iG, tri_enum, tri_comp, tri_tupL, tri_tupT, tri_pure, tri_bind, tri_need, tri_lim, vw, allM, Sl.see, isSto, ixN, atI, SM.all, dLen1]
    rw [lk]
    subst hl'
    exact of_at hL hn hn h
end Hd
set_option Elab.async false
set_option linter.all false
set_option maxRecDepth 100000
set_option maxHeartbeats 4000000
namespace Hd
open PySem PySem.Spec PyProof.Rows L2 Den
theorem flats_ints : ∀ ks : List Int, D.flats (ks.map D.int) = true
  | [] => by simp [D.flats]
  | k :: ks => by
    have := flats_ints ks
    simp [D.flats, this]
theorem flat_lot {w : Int} {d : D} (h : IsLot w d) : d.flat = true := by
  obtain ⟨ks, e, _, _⟩ := h
  rw [e]
  show D.flats [.tup (ks.map .int)] = true
  simp [D.flats, flats_ints]
theorem IsLot.mono {v w : Int} {d : D} (h : IsLot v d) (l : v ≤ w) : IsLot w d := by
  obtain ⟨ks, e, hk, hl⟩ := h
  exact ⟨ks, e, fun k q => ⟨(hk k q).1, by have := (hk k q).2; omega⟩, hl⟩
theorem one_lot {w : Int} {k : Nat} (h : (k : Int) < w) : IsLot w (.tup [.int k]) := ⟨[k], rfl, by simpa using h, by simp⟩
theorem tri_addL {xs ys : List D} {m : SM} {P : D → SM → Prop} : Tri (dAdd (.lst xs) (.lst ys)) m P ↔ xs.length + ys.length ≤ 16777216 ∧ P (.lst (xs ++ ys)) m := by
  unfold dAdd
  simp only [tri_bind, tri_lim, tri_pure]
theorem order_at {m : SM} {n : Nat} {P : D → SM → Prop} (hm : SI m) (hn : n ≤ 1000) (hP : ∀ m' d, SI m' → IsGrid n n d → P d m') : Tri (den__law_order [.sto, .int n]) m P := by
  unfold den__law_order
  simp [tri_runF, triF_seq, triF_nx, triF_rt, triF_bk, triF_ct, triF_ret, triF_if, triF_asg, triF_new, triF_setS, triF_setSt, triF_for, aft_nx, aft_rt, aft_rf, fin_rt, fin_rf, triF_retO, fin_nx, tri_fC, tri_gVar, tri_f2, tri_f1, tri_fL, tri_aN, tri_aC, tri_fTup, tri_lDis, tri_fNew, tri_fNot, tri_fAnd, tri_fOr, tri_fIf, tri_fCh, tri_tT, tri_t2, tri_tYes, tri_tNo, tri_tAnd, tri_tOr, tri_asB, tri_truB, tri_truI, tri_truL, tri_truT, tri_truN, tri_add, tri_sub, tri_lt, tri_le, tri_gt, tri_ge, tri_mod, tri_div, tri_pow, tri_mul, tri_int, tri_len, tri_min, tri_max, tri_eqI, tri_ixL, tri_ixT, tri_ixC, tri_ixS, tri_iSeq, tri_itsL, tri_itsT, tri_itsC, tri_iRan, tri_range, tri_iG, tri_enum, tri_comp, tri_tupL, tri_tupT, tri_pure, tri_bind, tri_need, tri_lim, vw, allM, Sl.see, isSto, ixN, atI, SM.all, dLen1]
  refine take_at hm (by decide) fun m1 z k1 k2 k3 => ?_
  refine ⟨rfl, by omega, ?_⟩
  refine triF_loop (fun j ρ m' => SI m' ∧ ∃ L s4 s5 s6, L.length = j ∧ (∀ d ∈ L, IsLot n d) ∧ ρ = [.va .sto, .va (.int n), .va (.int z), .ow L, s4, s5, s6]) _ 0 _ m1 ⟨k1, [], _, _, _, rfl, by simp, rfl⟩ (fun j d ρ m' hd hI => ?_) (fun ρ m' hI => ?_)
  · obtain ⟨hm', L, s4, s5, s6, hl, hL, eρ⟩ := hI
    subst eρ
    obtain ⟨hj, ed⟩ := ran_at hd
    subst ed
    refine ⟨_, rfl, ?_⟩
    simp only [triF_seq, triF_asg]
    simp [tri_runF, triF_seq, triF_nx, triF_rt, triF_bk, triF_ct, triF_ret, triF_if, triF_asg, triF_new, triF_setS, triF_setSt, triF_for, aft_nx, aft_rt, aft_rf, fin_rt, fin_rf, triF_retO, fin_nx, tri_fC, tri_gVar, tri_f2, tri_f1, tri_fL, tri_aN, tri_aC, tri_fTup, tri_lDis, tri_fNew, tri_fNot, tri_fAnd, tri_fOr, tri_fIf, tri_fCh, tri_tT, tri_t2, tri_tYes, tri_tNo, tri_tAnd, tri_tOr, tri_asB, tri_truB, tri_truI, tri_truL, tri_truT, tri_truN, tri_add, tri_sub, tri_lt, tri_le, tri_gt, tri_ge, tri_mod, tri_div, tri_pow, tri_mul, tri_int, tri_len, tri_min, tri_max, tri_eqI, tri_ixL, tri_ixT, tri_ixC, tri_ixS, tri_iSeq, tri_itsL, tri_itsT, tri_itsC, tri_iRan, tri_range, tri_iG, tri_enum, tri_comp, tri_tupL, tri_tupT, tri_pure, tri_bind, tri_need, tri_lim, vw, allM, Sl.see, isSto, ixN, atI, SM.all, dLen1]
    refine lot_run hm' (by omega) (by omega) fun m2 lot q1 q2 => ?_
    have core : ∀ (s6' : Option D) (bl : D) (bs : List D) (m : SM), SI m → bs.length ≤ 1000 → (∀ b ∈ bs, ∃ k : Int, b = .int k ∧ 0 ≤ k ∧ k < j) → Tri (compL (eName 6) Den.tYes (f2 dIx (gVar 3) (gVar 6)) [some .sto, some (.int n), some (.int z), some (.lst L), some (.int j), some bl, s6'] bs) m fun ds m =>
        Tri (dAdd (.lst ds) (.lst [.tup [.int j]])) m fun d m => Tri (den__law_join [d]) m fun d m => d.flat = true ∧ L.length ≤ 16777215 ∧ SI m ∧ L.length = j ∧ ∀ (d_1 : D), d_1 ∈ L ∨ d_1 = d → IsLot n d_1 := fun s6' bl bs m hm hl0 hbs => by
      refine tri_compE SI (fun d y => IsLot n y) false _ hm (fun d hd m hm => ?_) fun ys m3 r1 r2 _ r4 => ?_
      · obtain ⟨k, e, hk0, hk1⟩ := hbs d hd
        subst e
        refine ⟨_, rfl, ?_⟩
        rw [tri_tYes, if_pos rfl]
        simp only [tri_f2, tri_gVar]
        refine ⟨_, rfl, _, rfl, ?_⟩
        rw [tri_ixL, atI_pos hk0]
        have hk : k.toNat < L.length := by omega
        exact ⟨_, List.getElem?_eq_getElem hk, hL _ (List.getElem_mem hk), hm⟩
      · have hall : ∀ d ∈ ys ++ [.tup [.int j]], IsLot n d := fun d hd => by
          rcases List.mem_append.mp hd with hd | hd
          · obtain ⟨_, _, q⟩ := r4 d hd
            exact q
          · rw [List.mem_singleton.mp hd]; exact one_lot (by omega)
        rw [tri_addL]
        refine ⟨by simp; omega, join_run (fun d hd => (hall d hd).its) (by simp; omega) ?_⟩
        have q := join_lot hall
        exact ⟨flat_lot q, by omega, r1, by omega, fun x hx => hx.elim (hL x) fun e => by rw [e]; exact q⟩
    simp only [triF_app]
    simp [tri_runF, triF_seq, triF_nx, triF_rt, triF_bk, triF_ct, triF_ret, triF_if, triF_asg, triF_new, triF_setS, triF_setSt, triF_for, aft_nx, aft_rt, aft_rf, fin_rt, fin_rf, triF_retO, fin_nx, tri_fC, tri_gVar, tri_f2, tri_f1, tri_fL, tri_aN, tri_aC, tri_fTup, tri_lDis, tri_fNew, tri_fNot, tri_fAnd, tri_fOr, tri_fIf, tri_fCh, tri_tT, tri_t2, tri_tYes, tri_tNo, tri_tAnd, tri_tOr, tri_asB, tri_truB, tri_truI, tri_truL, tri_truT, tri_truN, tri_add, tri_sub, tri_lt, tri_le, tri_gt, tri_ge, tri_mod, tri_div, tri_pow, tri_mul, tri_int, tri_len, tri_min, tri_max, tri_eqI, tri_ixL, tri_ixT, tri_ixC, tri_ixS, tri_iSeq, tri_itsL, tri_itsT, tri_itsC, tri_iRan, tri_range, tri_iG, tri_enum, tri_comp, tri_tupL, tri_tupT, tri_pure, tri_bind, tri_need, tri_lim, vw, allM, Sl.see, isSto, ixN, atI, SM.all, dLen1]
    have rng : ∀ b ∈ (List.range j).map (fun i : Nat => D.int (i : Int)), ∃ k : Int, b = .int k ∧ 0 ≤ k ∧ k < j := fun b hb => by
      obtain ⟨i, hi, e⟩ := List.mem_map.mp hb
      have := List.mem_range.mp hi
      exact ⟨i, e.symm, by omega, by omega⟩
    have rngc : ∀ (ρ : EV) (m : SM) (P : List D → SM → Prop), 6 < ρ.length → P ((List.range j).map fun i : Nat => D.int (i : Int)) m → Tri (compL (eName 6) Den.tYes (gVar 6) ρ ((List.range j).map fun i : Nat => D.int (i : Int))) m P := fun ρ m P h6 hP => by
      refine tri_compM (fun d => d) _ (fun d hd => ⟨_, rfl, ?_⟩) (by rw [List.map_id']; exact hP)
      rw [tri_gVar]; exact ⟨_, List.getElem?_set_self h6, rfl, rfl⟩
    obtain ⟨ks, ek, hk, hkl⟩ := q2
    subst ek
    split
    · split
      · refine ⟨by omega, by omega, rngc _ _ _ (by simp) ?_⟩
        exact ⟨by simp; omega, core _ _ _ m2 q1 (by simp; omega) rng⟩
      · exact core _ _ _ m2 q1 (by simp) (by simp)
    · split
      · refine ⟨by omega, by omega, rngc _ _ _ (by simp) ?_⟩
        exact ⟨by simp; omega, core _ _ _ m2 q1 (by simp; omega) rng⟩
      · rw [tri_itsT]
        refine ⟨by simp; omega, core _ _ _ m2 q1 (by simpa using hkl) fun b hb => ?_⟩
        obtain ⟨k, hk2, e⟩ := List.mem_map.mp hb
        exact ⟨k, e.symm, (hk k hk2).1, (hk k hk2).2⟩
  · obtain ⟨hm', L, s4, s5, s6, hl, hL, eρ⟩ := hI
    subst eρ
    have hl' : L.length = n := by simpa using hl
    simp [tri_runF, triF_seq, triF_nx, triF_rt, triF_bk, triF_ct, triF_ret, triF_if, triF_asg, triF_new, triF_setS, triF_setSt, triF_for, aft_nx, aft_rt, aft_rf, fin_rt, fin_rf, triF_retO, fin_nx, tri_fC, tri_gVar, tri_f2, tri_f1, tri_fL, tri_aN, tri_aC, tri_fTup, tri_lDis, tri_fNew, tri_fNot, tri_fAnd, tri_fOr, tri_fIf, tri_fCh, tri_tT, tri_t2, tri_tYes, tri_tNo, tri_tAnd, tri_tOr, tri_asB, tri_truB, tri_truI, tri_truL, tri_truT, tri_truN, tri_add, tri_sub, tri_lt, tri_le, tri_gt, tri_ge, tri_mod, tri_div, tri_pow, tri_mul, tri_int, tri_len, tri_min, tri_max, tri_eqI, tri_ixL, tri_ixT, tri_ixC, tri_ixS, tri_iSeq, tri_itsL, tri_itsT, tri_itsC, tri_iRan, tri_range, tri_iG, tri_enum, tri_comp, tri_tupL, tri_tupT, tri_pure, tri_bind, tri_need, tri_lim, vw, allM, Sl.see, isSto, ixN, atI, SM.all, dLen1]
    subst hl'
    refine of_at hL hn hn fun g hg => ?_
    refine placing_at hm' hn fun m2 p q1 q2 => ?_
    exact placed_at hg q2 hn fun d hd => hP m2 d q1 hd
end Hd
set_option Elab.async false
set_option linter.all false
set_option maxRecDepth 100000
set_option maxHeartbeats 4000000
namespace Den
open PySem PySem.Spec PyProof.Rows L2
theorem triF_set {m : SM} {P : Fl → SM → Prop} {ρ : SV} {i : Nat} {mk : List Bool} {F Gj : EV → M D} {xs : List D} (h1 : ρ[i]? = some (.ow xs))
    (h : Tri (F (vw mk ρ)) m fun d m => Tri (Gj (vw (allM ρ) ρ)) m fun jd m => ∃ (k : Int) (n : Nat), jd = .int k ∧ (mk.isEmpty || d.flat) = true ∧ ixN xs.length k = some n ∧ P (.nx (ρ.set i (.ow (xs.set n d)))) m) : TriF (gSet i mk F Gj ρ) m P := by
  unfold gSet
  rw [triF_exB]
  refine h.mono fun d m h => ?_
  rw [triF_exB, tri_noErr]
  refine h.mono fun jd m ⟨k, n, e, hf, hn, p⟩ => ?_
  subst e
  rw [h1]
  simp only
  rw [triF_need]
  refine ⟨hf, ?_⟩
  rw [hn]
  simp only [triF_nx]
  exact p
theorem tri_slice {m : SM} {P : List D → SM → Prop} {ρ : EV} {F : EV → M D} {O O' : EV → M (Option Int)} : Tri (gSlice F O O' ρ) m P ↔ Tri (F ρ) m fun x m => Tri (O ρ) m fun lo m => Tri (O' ρ) m fun hi m => Tri (dCut x lo hi) m P := by
  unfold gSlice; simp only [tri_bind]
theorem tri_oNo {m : SM} {P : Option Int → SM → Prop} {ρ : EV} : Tri (oNo ρ) m P ↔ P none m := by unfold Tri; exact Iff.rfl
theorem tri_oYes {m : SM} {P : Option Int → SM → Prop} {ρ : EV} {F : EV → M D} : Tri (oYes F ρ) m P ↔ Tri (F ρ) m fun x m => Tri (asI x) m P := tri_bind
theorem tri_asI {m : SM} {P : Option Int → SM → Prop} {i : Int} : Tri (asI (.int i)) m P ↔ P (some i) m := by unfold Tri; exact Iff.rfl
theorem tri_cutL {m : SM} {P : List D → SM → Prop} {xs : List D} {lo hi : Option Int} : Tri (dCut (.lst xs) lo hi) m P ↔ P (cutD xs lo hi) m := by unfold Tri; exact Iff.rfl
theorem tri_cutC {m : SM} {P : List D → SM → Prop} {ns : List Int} {lo hi : Option Int} : Tri (dCut (.scr ns) lo hi) m P ↔ P ((cutD ns lo hi).map .int) m := by unfold Tri; exact Iff.rfl
theorem cut_take {α : Type} (xs : List α) (n : Nat) : cutD xs none (some (n : Int)) = xs.take n := by
  unfold cutD
  rw [HT.sIx_nat, HT.sIx_none, List.drop_zero, Nat.sub_zero, List.take_eq_take_iff]
  omega
end Den
namespace Hd
open PySem PySem.Spec PyProof.Rows L2 Den
theorem ran_comp {ρ : EV} {n j : Nat} {m : SM} {P : List D → SM → Prop} (hj : j < ρ.length) (hP : P ((List.range n).map fun i : Nat => D.int (i : Int)) m) : Tri (compL (eName j) Den.tYes (gVar j) ρ ((List.range n).map fun i : Nat => D.int (i : Int))) m P := by
  refine tri_compM (fun d => d) _ (fun d hd => ⟨_, rfl, ?_⟩) (by rw [List.map_id']; exact hP)
  rw [tri_gVar]; exact ⟨_, List.getElem?_set_self hj, rfl, rfl⟩
theorem units_at {m : SM} {n h : Nat} {P : D → SM → Prop} (hm : SI m) (hn : n ≤ h) (hh : h ≤ 1000) (hP : ∀ m' (L : List D) (S : List Int), SI m' → L.length = h → (∀ d ∈ L, IsLot n d) → S.length = n → (∀ k ∈ S, 0 ≤ k ∧ k < h) → P (.lst [.lst L, .lst (S.map .int)]) m') : Tri (den__law_units [.sto, .int n, .int h]) m P := by
  unfold den__law_units
  simp [tri_runF, triF_seq, triF_nx, triF_rt, triF_bk, triF_ct, triF_ret, triF_if, triF_asg, triF_new, triF_setS, triF_setSt, triF_for, aft_nx, aft_rt, aft_rf, fin_rt, fin_rf, triF_retO, fin_nx, tri_fC, tri_gVar, tri_f2, tri_f1, tri_fL, tri_aN, tri_aC, tri_fTup, tri_lDis, tri_fNew, tri_fNot, tri_fAnd, tri_fOr, tri_fIf, tri_fCh, tri_tT, tri_t2, tri_tYes, tri_tNo, tri_tAnd, tri_tOr, tri_asB, tri_truB, tri_truI, tri_truL, tri_truT, tri_truN, tri_add, tri_sub, tri_lt, tri_le, tri_gt, tri_ge, tri_mod, tri_div, tri_pow, tri_mul, tri_int, tri_len, tri_min, tri_max, tri_eqI, tri_ixL, tri_ixT, tri_ixC, tri_ixS, tri_iSeq, tri_itsL, tri_itsT, tri_itsC, tri_iRan, tri_range, tri_iG, tri_enum, tri_comp, tri_tupL, tri_tupT, tri_pure, tri_bind, tri_need, tri_lim, vw, allM, Sl.see, isSto, ixN, atI, SM.all, dLen1]
  simp only [tri_slice]
  simp [tri_runF, triF_seq, triF_nx, triF_rt, triF_bk, triF_ct, triF_ret, triF_if, triF_asg, triF_new, triF_setS, triF_setSt, triF_for, aft_nx, aft_rt, aft_rf, fin_rt, fin_rf, triF_retO, fin_nx, tri_fC, tri_gVar, tri_f2, tri_f1, tri_fL, tri_aN, tri_aC, tri_fTup, tri_lDis, tri_fNew, tri_fNot, tri_fAnd, tri_fOr, tri_fIf, tri_fCh, tri_tT, tri_t2, tri_tYes, tri_tNo, tri_tAnd, tri_tOr, tri_asB, tri_truB, tri_truI, tri_truL, tri_truT, tri_truN, tri_add, tri_sub, tri_lt, tri_le, tri_gt, tri_ge, tri_mod, tri_div, tri_pow, tri_mul, tri_int, tri_len, tri_min, tri_max, tri_eqI, tri_ixL, tri_ixT, tri_ixC, tri_ixS, tri_iSeq, tri_itsL, tri_itsT, tri_itsC, tri_iRan, tri_range, tri_iG, tri_enum, tri_comp, tri_tupL, tri_tupT, tri_pure, tri_bind, tri_need, tri_lim, vw, allM, Sl.see, isSto, ixN, atI, SM.all, dLen1]
  refine ⟨by omega, by omega, ran_comp (by simp) ?_⟩
  refine shuffle_at hm (by simpa using hh) fun m1 ys q1 q2 => ?_
  simp only [tri_oNo, tri_oYes]
  simp [tri_runF, triF_seq, triF_nx, triF_rt, triF_bk, triF_ct, triF_ret, triF_if, triF_asg, triF_new, triF_setS, triF_setSt, triF_for, aft_nx, aft_rt, aft_rf, fin_rt, fin_rf, triF_retO, fin_nx, tri_fC, tri_gVar, tri_f2, tri_f1, tri_fL, tri_aN, tri_aC, tri_fTup, tri_lDis, tri_fNew, tri_fNot, tri_fAnd, tri_fOr, tri_fIf, tri_fCh, tri_tT, tri_t2, tri_tYes, tri_tNo, tri_tAnd, tri_tOr, tri_asB, tri_truB, tri_truI, tri_truL, tri_truT, tri_truN, tri_add, tri_sub, tri_lt, tri_le, tri_gt, tri_ge, tri_mod, tri_div, tri_pow, tri_mul, tri_int, tri_len, tri_min, tri_max, tri_eqI, tri_ixL, tri_ixT, tri_ixC, tri_ixS, tri_iSeq, tri_itsL, tri_itsT, tri_itsC, tri_iRan, tri_range, tri_iG, tri_enum, tri_comp, tri_tupL, tri_tupT, tri_pure, tri_bind, tri_need, tri_lim, vw, allM, Sl.see, isSto, ixN, atI, SM.all, dLen1]
  simp only [tri_asI, tri_cutL]
  rw [cut_take]
  obtain ⟨ks, e, hk⟩ := ints_of (p := fun k => 0 ≤ k ∧ k < h) (ys := ys) fun y hy => by
    obtain ⟨i, hi, e⟩ := List.mem_map.mp (q2.mem_iff.mp hy)
    have := List.mem_range.mp hi
    exact ⟨i, e.symm, by omega, by omega⟩
  subst e
  have lk : ks.length = h := by simpa using q2.length_eq
  rw [← List.map_take]
  have hS : ∀ k ∈ ks.take n, 0 ≤ k ∧ k < h := fun k q => hk k (List.mem_of_mem_take q)
  have lS : (ks.take n).length = n := by rw [List.length_take]; omega
  generalize ks.take n = S at hS lS ⊢
  refine ⟨by omega, by omega, ?_⟩
  refine tri_compE SI (fun d y => IsLot n y) true _ q1 (fun d hd m hm => ?_) fun ys m2 g1 g2 g3 g4 => ?_
  · refine ⟨_, rfl, ?_⟩
    simp [tri_runF, triF_seq, triF_nx, triF_rt, triF_bk, triF_ct, triF_ret, triF_if, triF_asg, triF_new, triF_setS, triF_setSt, triF_for, aft_nx, aft_rt, aft_rf, fin_rt, fin_rf, triF_retO, fin_nx, tri_fC, tri_gVar, tri_f2, tri_f1, tri_fL, tri_aN, tri_aC, tri_fTup, tri_lDis, tri_fNew, tri_fNot, tri_fAnd, tri_fOr, tri_fIf, tri_fCh, tri_tT, tri_t2, tri_tYes, tri_tNo, tri_tAnd, tri_tOr, tri_asB, tri_truB, tri_truI, tri_truL, tri_truT, tri_truN, tri_add, tri_sub, tri_lt, tri_le, tri_gt, tri_ge, tri_mod, tri_div, tri_pow, tri_mul, tri_int, tri_len, tri_min, tri_max, tri_eqI, tri_ixL, tri_ixT, tri_ixC, tri_ixS, tri_iSeq, tri_itsL, tri_itsT, tri_itsC, tri_iRan, tri_range, tri_iG, tri_enum, tri_comp, tri_tupL, tri_tupT, tri_pure, tri_bind, tri_need, tri_lim, vw, allM, Sl.see, isSto, ixN, atI, SM.all, dLen1]
    exact lot_run hm (by omega) (by omega) fun m2 y g1 g2 => ⟨g2, g1⟩
  have ly : ys.length = h := by simpa using g3 rfl
  refine ⟨rfl, by omega, ?_⟩
  refine triF_loop (fun j ρ m' => SI m' ∧ ∃ L s5 s6, L.length = h ∧ (∀ d ∈ L, IsLot n d) ∧ ρ = [.va .sto, .va (.int n), .va (.int h), .va (.lst (S.map .int)), .ow L, s5, s6]) _ 0 _ m2 ⟨g1, ys, _, _, ly, fun d hd => by
    obtain ⟨_, _, q⟩ := g4 d hd
    exact q, rfl⟩ (fun j d ρ m' hd hI => ?_) (fun ρ m' hI => ?_)
  · obtain ⟨hm', L, s5, s6, hl, hL, eρ⟩ := hI
    subst eρ
    obtain ⟨hj, ed⟩ := ran_at hd
    subst ed
    refine ⟨_, rfl, ?_⟩
    refine triF_set (xs := L) rfl ?_
    simp [tri_runF, triF_seq, triF_nx, triF_rt, triF_bk, triF_ct, triF_ret, triF_if, triF_asg, triF_new, triF_setS, triF_setSt, triF_for, aft_nx, aft_rt, aft_rf, fin_rt, fin_rf, triF_retO, fin_nx, tri_fC, tri_gVar, tri_f2, tri_f1, tri_fL, tri_aN, tri_aC, tri_fTup, tri_lDis, tri_fNew, tri_fNot, tri_fAnd, tri_fOr, tri_fIf, tri_fCh, tri_tT, tri_t2, tri_tYes, tri_tNo, tri_tAnd, tri_tOr, tri_asB, tri_truB, tri_truI, tri_truL, tri_truT, tri_truN, tri_add, tri_sub, tri_lt, tri_le, tri_gt, tri_ge, tri_mod, tri_div, tri_pow, tri_mul, tri_int, tri_len, tri_min, tri_max, tri_eqI, tri_ixL, tri_ixT, tri_ixC, tri_ixS, tri_iSeq, tri_itsL, tri_itsT, tri_itsC, tri_iRan, tri_range, tri_iG, tri_enum, tri_comp, tri_tupL, tri_tupT, tri_pure, tri_bind, tri_need, tri_lim, vw, allM, Sl.see, isSto, ixN, atI, SM.all, dLen1]
    have hjS : j < S.length := by omega
    have hb := hS _ (List.getElem_mem hjS)
    refine ⟨.int S[j], by simp [hjS], S[j], rfl, S[j].toNat, ?_, hm', hl, fun x hx => ?_⟩
    · rw [if_pos hb.1, if_pos (by omega)]
    · rcases List.mem_or_eq_of_mem_set hx with hx | hx
      · exact hL x hx
      · rw [hx]; exact one_lot (by omega)
  · obtain ⟨hm', L, s5, s6, hl, hL, eρ⟩ := hI
    subst eρ
    simp [tri_runF, triF_seq, triF_nx, triF_rt, triF_bk, triF_ct, triF_ret, triF_if, triF_asg, triF_new, triF_setS, triF_setSt, triF_for, aft_nx, aft_rt, aft_rf, fin_rt, fin_rf, triF_retO, fin_nx, tri_fC, tri_gVar, tri_f2, tri_f1, tri_fL, tri_aN, tri_aC, tri_fTup, tri_lDis, tri_fNew, tri_fNot, tri_fAnd, tri_fOr, tri_fIf, tri_fCh, tri_tT, tri_t2, tri_tYes, tri_tNo, tri_tAnd, tri_tOr, tri_asB, tri_truB, tri_truI, tri_truL, tri_truT, tri_truN, tri_add, tri_sub, tri_lt, tri_le, tri_gt, tri_ge, tri_mod, tri_div, tri_pow, tri_mul, tri_int, tri_len, tri_min, tri_max, tri_eqI, tri_ixL, tri_ixT, tri_ixC, tri_ixS, tri_iSeq, tri_itsL, tri_itsT, tri_itsC, tri_iRan, tri_range, tri_iG, tri_enum, tri_comp, tri_tupL, tri_tupT, tri_pure, tri_bind, tri_need, tri_lim, vw, allM, Sl.see, isSto, ixN, atI, SM.all, dLen1]
    exact hP m' L S hm' hl hL lS hS
end Hd
set_option Elab.async false
set_option linter.all false
set_option maxRecDepth 100000
set_option maxHeartbeats 4000000
namespace Hd
open PySem PySem.Spec PyProof.Rows L2 Den
theorem lots_at {m : SM} {h w : Nat} {g : D} {P : D → SM → Prop} (hg : IsGrid h w g) (h1 : h ≤ 1000) (h2 : w ≤ 1000) (hP : ∀ L : List D, L.length = h → (∀ d ∈ L, IsLot w d) → P (.lst L) m) : Tri (den__law_lots [g]) m P := by
  obtain ⟨rows, a, b, eg⟩ := hg.ex
  subst eg
  unfold den__law_lots gridD
  simp [tri_runF, triF_seq, triF_nx, triF_rt, triF_bk, triF_ct, triF_ret, triF_if, triF_asg, triF_new, triF_setS, triF_setSt, triF_for, aft_nx, aft_rt, aft_rf, fin_rt, fin_rf, triF_retO, fin_nx, tri_fC, tri_gVar, tri_f2, tri_f1, tri_fL, tri_aN, tri_aC, tri_fTup, tri_lDis, tri_fNew, tri_fNot, tri_fAnd, tri_fOr, tri_fIf, tri_fCh, tri_tT, tri_t2, tri_tYes, tri_tNo, tri_tAnd, tri_tOr, tri_asB, tri_truB, tri_truI, tri_truL, tri_truT, tri_truN, tri_add, tri_sub, tri_lt, tri_le, tri_gt, tri_ge, tri_mod, tri_div, tri_pow, tri_mul, tri_int, tri_len, tri_min, tri_max, tri_eqI, tri_ixL, tri_ixT, tri_ixC, tri_ixS, tri_iSeq, tri_itsL, tri_itsT, tri_itsC, tri_iRan, tri_range, tri_iG, tri_enum, tri_comp, tri_tupL, tri_tupT, tri_pure, tri_bind, tri_need, tri_lim, vw, allM, Sl.see, isSto, ixN, atI, SM.all, dLen1]
  refine ⟨rfl, ?_⟩
  refine triF_loop (fun j ρ m' => m' = m ∧ ∃ L s2 s3, L.length = j ∧ (∀ d ∈ L, IsLot w d) ∧ ρ = [.va (.tup [.str "table", .int h, .int w, .tup (rows.map fun r => .tup (r.map .bl))]), .ow L, s2, s3]) _ 0 _ m ⟨rfl, [], _, _, rfl, by simp, rfl⟩ (fun j d ρ m' hd hI => ?_) (fun ρ m' hI => ?_)
  · obtain ⟨em, L, s2, s3, hl, hL, eρ⟩ := hI
    subst eρ em
    have hjr : j < rows.length := by
      by_cases hh : j < rows.length
      · exact hh
      · rw [List.getElem?_eq_none (by simpa using hh)] at hd; cases hd
    have ed : d = .tup (rows[j].map .bl) := by
      rw [List.getElem?_map, List.getElem?_eq_getElem hjr] at hd
      exact (Option.some.inj hd).symm
    subst ed
    refine ⟨_, rfl, ?_⟩
    rw [triF_app]
    refine ⟨_, rfl, ?_⟩
    simp [tri_runF, triF_seq, triF_nx, triF_rt, triF_bk, triF_ct, triF_ret, triF_if, triF_asg, triF_new, triF_setS, triF_setSt, triF_for, aft_nx, aft_rt, aft_rf, fin_rt, fin_rf, triF_retO, fin_nx, tri_fC, tri_gVar, tri_f2, tri_f1, tri_fL, tri_aN, tri_aC, tri_fTup, tri_lDis, tri_fNew, tri_fNot, tri_fAnd, tri_fOr, tri_fIf, tri_fCh, tri_tT, tri_t2, tri_tYes, tri_tNo, tri_tAnd, tri_tOr, tri_asB, tri_truB, tri_truI, tri_truL, tri_truT, tri_truN, tri_add, tri_sub, tri_lt, tri_le, tri_gt, tri_ge, tri_mod, tri_div, tri_pow, tri_mul, tri_int, tri_len, tri_min, tri_max, tri_eqI, tri_ixL, tri_ixT, tri_ixC, tri_ixS, tri_iSeq, tri_itsL, tri_itsT, tri_itsC, tri_iRan, tri_range, tri_iG, tri_enum, tri_comp, tri_tupL, tri_tupT, tri_pure, tri_bind, tri_need, tri_lim, vw, allM, Sl.see, isSto, ixN, atI, SM.all, dLen1]
    refine ⟨by omega, by omega, ?_⟩
    refine tri_compE (fun m'' => m'' = m') (fun d y => y = d) false _ rfl (fun d hd m'' em => ?_) fun ds m3 em ll _ l4 => ?_
    · obtain ⟨i, hi, e⟩ := List.mem_map.mp hd
      have hi := List.mem_range.mp hi
      subst e em
      refine ⟨_, rfl, ?_⟩
      have hrr : i < rows[j].length := by rw [b _ (List.getElem_mem hjr)]; exact hi
      simp only [tri_tT, tri_f2, tri_gVar]
      refine ⟨_, rfl, _, rfl, ?_⟩
      rw [tri_ixT, Den.atI_nat]
      refine ⟨.bl rows[j][i], by simp [hrr], ?_⟩
      rw [tri_truB]
      split
      · exact ⟨_, rfl, rfl, rfl⟩
      · first | exact ⟨rfl, rfl⟩ | exact ⟨trivial, rfl⟩
    · subst em
      have q2 : IsLot w (.tup ds) := lot_of (by simp at ll; omega) fun y hy => by
        have := l4 y hy
        simpa using this
      exact ⟨by omega, rfl, by omega, fun x hx => hx.elim (hL x) fun e => by rw [e]; exact q2⟩
  · obtain ⟨em, L, s2, s3, hl, hL, eρ⟩ := hI
    subst eρ em
    have hl' : L.length = h := by simpa [a] using hl
    simp [tri_runF, triF_seq, triF_nx, triF_rt, triF_bk, triF_ct, triF_ret, triF_if, triF_asg, triF_new, triF_setS, triF_setSt, triF_for, aft_nx, aft_rt, aft_rf, fin_rt, fin_rf, triF_retO, fin_nx, tri_fC, tri_gVar, tri_f2, tri_f1, tri_fL, tri_aN, tri_aC, tri_fTup, tri_lDis, tri_fNew, tri_fNot, tri_fAnd, tri_fOr, tri_fIf, tri_fCh, tri_tT, tri_t2, tri_tYes, tri_tNo, tri_tAnd, tri_tOr, tri_asB, tri_truB, tri_truI, tri_truL, tri_truT, tri_truN, tri_add, tri_sub, tri_lt, tri_le, tri_gt, tri_ge, tri_mod, tri_div, tri_pow, tri_mul, tri_int, tri_len, tri_min, tri_max, tri_eqI, tri_ixL, tri_ixT, tri_ixC, tri_ixS, tri_iSeq, tri_itsL, tri_itsT, tri_itsC, tri_iRan, tri_range, tri_iG, tri_enum, tri_comp, tri_tupL, tri_tupT, tri_pure, tri_bind, tri_need, tri_lim, vw, allM, Sl.see, isSto, ixN, atI, SM.all, dLen1]
    exact hP L hl' hL
theorem through_at {m : SM} {n w : Nat} {lot : D} {L : List D} {P : D → SM → Prop} (hlot : IsLot n lot) (hl : L.length = n) (hL : ∀ d ∈ L, IsLot w d) (hP : ∀ d, IsLot w d → P d m) : Tri (den__law_through [lot, .lst L]) m P := by
  obtain ⟨ks, e, hk, hkl⟩ := hlot
  subst e
  unfold den__law_through
  simp [tri_runF, triF_seq, triF_nx, triF_rt, triF_bk, triF_ct, triF_ret, triF_if, triF_asg, triF_new, triF_setS, triF_setSt, triF_for, aft_nx, aft_rt, aft_rf, fin_rt, fin_rf, triF_retO, fin_nx, tri_fC, tri_gVar, tri_f2, tri_f1, tri_fL, tri_aN, tri_aC, tri_fTup, tri_lDis, tri_fNew, tri_fNot, tri_fAnd, tri_fOr, tri_fIf, tri_fCh, tri_tT, tri_t2, tri_tYes, tri_tNo, tri_tAnd, tri_tOr, tri_asB, tri_truB, tri_truI, tri_truL, tri_truT, tri_truN, tri_add, tri_sub, tri_lt, tri_le, tri_gt, tri_ge, tri_mod, tri_div, tri_pow, tri_mul, tri_int, tri_len, tri_min, tri_max, tri_eqI, tri_ixL, tri_ixT, tri_ixC, tri_ixS, tri_iSeq, tri_itsL, tri_itsT, tri_itsC, tri_iRan, tri_range, tri_iG, tri_enum, tri_comp, tri_tupL, tri_tupT, tri_pure, tri_bind, tri_need, tri_lim, vw, allM, Sl.see, isSto, ixN, atI, SM.all, dLen1]
  refine ⟨by omega, ?_⟩
  refine tri_compE (fun m'' => m'' = m) (fun d y => IsLot w y) false _ rfl (fun d hd m'' em => ?_) fun ds m3 em ll _ l4 => ?_
  · obtain ⟨k, hk2, e⟩ := List.mem_map.mp hd
    subst e em
    refine ⟨_, rfl, ?_⟩
    rw [tri_tYes, if_pos rfl]
    simp only [tri_f2, tri_gVar]
    refine ⟨_, rfl, _, rfl, ?_⟩
    rw [tri_ixL, atI_pos (hk k hk2).1]
    have hlt : k.toNat < L.length := by have := hk k hk2; omega
    exact ⟨_, List.getElem?_eq_getElem hlt, hL _ (List.getElem_mem hlt), rfl⟩
  · subst em
    have hall : ∀ d ∈ ds, IsLot w d := fun d hd => by
      obtain ⟨_, _, q⟩ := l4 d hd
      exact q
    exact join_run (fun d hd => (hall d hd).its) (by simp at ll; omega) (hP _ (join_lot hall))
theorem gridD_w {h w : Nat} {g : D} (hg : IsGrid h w g) {m : SM} {P : D → SM → Prop} (hP : P (.int w) m) : Tri (dIx g (.int 2)) m P := by
  obtain ⟨rows, a, b, eg⟩ := hg.ex
  subst eg
  unfold gridD
  rw [tri_ixT]
  exact ⟨_, rfl, hP⟩
theorem gridD_h {h w : Nat} {g : D} (hg : IsGrid h w g) {m : SM} {P : D → SM → Prop} (hP : P (.int h) m) : Tri (dIx g (.int 1)) m P := by
  obtain ⟨rows, a, b, eg⟩ := hg.ex
  subst eg
  unfold gridD
  rw [tri_ixT]
  exact ⟨_, rfl, hP⟩
theorem behind_at {m : SM} {h n w : Nat} {g p : D} {P : D → SM → Prop} (hg : IsGrid h n g) (hp : IsGrid n w p) (h1 : h ≤ 1000) (h2 : n ≤ 1000) (h3 : w ≤ 1000) (hP : ∀ d, IsGrid h w d → P d m) : Tri (den__law_behind [g, p]) m P := by
  unfold den__law_behind
  simp [tri_runF, triF_seq, triF_nx, triF_rt, triF_bk, triF_ct, triF_ret, triF_if, triF_asg, triF_new, triF_setS, triF_setSt, triF_for, aft_nx, aft_rt, aft_rf, fin_rt, fin_rf, triF_retO, fin_nx, tri_fC, tri_gVar, tri_f2, tri_f1, tri_fL, tri_aN, tri_aC, tri_fTup, tri_lDis, tri_fNew, tri_fNot, tri_fAnd, tri_fOr, tri_fIf, tri_fCh, tri_tT, tri_t2, tri_tYes, tri_tNo, tri_tAnd, tri_tOr, tri_asB, tri_truB, tri_truI, tri_truL, tri_truT, tri_truN, tri_add, tri_sub, tri_lt, tri_le, tri_gt, tri_ge, tri_mod, tri_div, tri_pow, tri_mul, tri_int, tri_len, tri_min, tri_max, tri_eqI, tri_ixL, tri_ixT, tri_ixC, tri_ixS, tri_iSeq, tri_itsL, tri_itsT, tri_itsC, tri_iRan, tri_range, tri_iG, tri_enum, tri_comp, tri_tupL, tri_tupT, tri_pure, tri_bind, tri_need, tri_lim, vw, allM, Sl.see, isSto, ixN, atI, SM.all, dLen1]
  refine lots_at hp h2 h3 fun L hl hL => ?_
  refine lots_at hg h1 h2 fun K hk hK => ?_
  simp [tri_runF, triF_seq, triF_nx, triF_rt, triF_bk, triF_ct, triF_ret, triF_if, triF_asg, triF_new, triF_setS, triF_setSt, triF_for, aft_nx, aft_rt, aft_rf, fin_rt, fin_rf, triF_retO, fin_nx, tri_fC, tri_gVar, tri_f2, tri_f1, tri_fL, tri_aN, tri_aC, tri_fTup, tri_lDis, tri_fNew, tri_fNot, tri_fAnd, tri_fOr, tri_fIf, tri_fCh, tri_tT, tri_t2, tri_tYes, tri_tNo, tri_tAnd, tri_tOr, tri_asB, tri_truB, tri_truI, tri_truL, tri_truT, tri_truN, tri_add, tri_sub, tri_lt, tri_le, tri_gt, tri_ge, tri_mod, tri_div, tri_pow, tri_mul, tri_int, tri_len, tri_min, tri_max, tri_eqI, tri_ixL, tri_ixT, tri_ixC, tri_ixS, tri_iSeq, tri_itsL, tri_itsT, tri_itsC, tri_iRan, tri_range, tri_iG, tri_enum, tri_comp, tri_tupL, tri_tupT, tri_pure, tri_bind, tri_need, tri_lim, vw, allM, Sl.see, isSto, ixN, atI, SM.all, dLen1]
  refine ⟨by omega, ?_⟩
  refine tri_compE (fun m'' => m'' = m) (fun d y => IsLot w y) true _ rfl (fun d hd m'' em => ?_) fun ds m3 em ll l3 l4 => ?_
  · subst em
    refine ⟨_, rfl, ?_⟩
    rw [tri_tYes, if_pos rfl]
    simp only [tri_fL, tri_aC, tri_gVar]
    refine ⟨_, rfl, _, rfl, tri_aN.mpr ?_⟩
    exact through_at (hK d hd) hl hL fun d hd => ⟨hd, rfl⟩
  · subst em
    have hall : ∀ d ∈ ds, IsLot w d := fun d hd => by
      obtain ⟨_, _, q⟩ := l4 d hd
      exact q
    have ld : ds.length = h := (l3 rfl).trans hk
    refine gridD_w hp ?_
    subst ld
    exact of_at hall h1 h3 hP
end Hd
set_option Elab.async false
set_option linter.all false
set_option maxRecDepth 100000
set_option maxHeartbeats 4000000
namespace Hd
open PySem PySem.Spec PyProof.Rows L2 Den
/-- lots of one thing each, out of a list of ints -/
theorem ones_comp {ρ : EV} {j : Nat} {S : List Int} {w : Nat} {m : SM} {P : List D → SM → Prop} (hj : j < ρ.length) (hS : ∀ k ∈ S, 0 ≤ k ∧ k < w) (hP : ∀ L : List D, L.length = S.length → (∀ d ∈ L, IsLot w d) → P L m) : Tri (compL (eName j) Den.tYes (fTup (aC (gVar j) aN)) ρ (S.map .int)) m P := by
  refine tri_compM (fun d => .tup [d]) _ (fun d hd => ⟨_, rfl, ?_⟩) (hP _ (by simp) fun d hd => ?_)
  · simp only [tri_fTup, tri_aC, tri_gVar]
    exact ⟨_, List.getElem?_set_self hj, tri_aN.mpr ⟨by simp, rfl, rfl⟩⟩
  · obtain ⟨x, hx, e⟩ := List.mem_map.mp hd
    obtain ⟨k, hk, e2⟩ := List.mem_map.mp hx
    subst e e2
    exact ⟨[k], rfl, by simpa using hS k hk, by simp⟩
theorem spread_at {m : SM} {a b h w : Nat} {g : D} {P : D → SM → Prop} (hm : SI m) (hg : IsGrid a b g) (ha : a ≤ h) (hb : b ≤ w) (h1 : h ≤ 1000) (h2 : w ≤ 1000) (hP : ∀ m' (d : D) (r : List D), SI m' → IsGrid h w d → P (.lst (d :: r)) m') : Tri (den__law_spread [.sto, g, .int h, .int w]) m P := by
  unfold den__law_spread
  simp [tri_runF, triF_seq, triF_nx, triF_rt, triF_bk, triF_ct, triF_ret, triF_if, triF_asg, triF_new, triF_setS, triF_setSt, triF_for, aft_nx, aft_rt, aft_rf, fin_rt, fin_rf, triF_retO, fin_nx, tri_fC, tri_gVar, tri_f2, tri_f1, tri_fL, tri_aN, tri_aC, tri_fTup, tri_lDis, tri_fNew, tri_fNot, tri_fAnd, tri_fOr, tri_fIf, tri_fCh, tri_tT, tri_t2, tri_tYes, tri_tNo, tri_tAnd, tri_tOr, tri_asB, tri_truB, tri_truI, tri_truL, tri_truT, tri_truN, tri_add, tri_sub, tri_lt, tri_le, tri_gt, tri_ge, tri_mod, tri_div, tri_pow, tri_mul, tri_int, tri_len, tri_min, tri_max, tri_eqI, tri_ixL, tri_ixT, tri_ixC, tri_ixS, tri_iSeq, tri_itsL, tri_itsT, tri_itsC, tri_iRan, tri_range, tri_iG, tri_enum, tri_comp, tri_tupL, tri_tupT, tri_pure, tri_bind, tri_need, tri_lim, vw, allM, Sl.see, isSto, ixN, atI, SM.all, dLen1]
  refine gridD_h hg ?_
  refine units_at hm ha h1 fun m1 L S q1 q2 q3 q4 q5 => ?_
  refine gridD_w hg ?_
  refine units_at q1 hb h2 fun m2 K T r1 r2 r3 r4 r5 => ?_
  simp [tri_runF, triF_seq, triF_nx, triF_rt, triF_bk, triF_ct, triF_ret, triF_if, triF_asg, triF_new, triF_setS, triF_setSt, triF_for, aft_nx, aft_rt, aft_rf, fin_rt, fin_rf, triF_retO, fin_nx, tri_fC, tri_gVar, tri_f2, tri_f1, tri_fL, tri_aN, tri_aC, tri_fTup, tri_lDis, tri_fNew, tri_fNot, tri_fAnd, tri_fOr, tri_fIf, tri_fCh, tri_tT, tri_t2, tri_tYes, tri_tNo, tri_tAnd, tri_tOr, tri_asB, tri_truB, tri_truI, tri_truL, tri_truT, tri_truN, tri_add, tri_sub, tri_lt, tri_le, tri_gt, tri_ge, tri_mod, tri_div, tri_pow, tri_mul, tri_int, tri_len, tri_min, tri_max, tri_eqI, tri_ixL, tri_ixT, tri_ixC, tri_ixS, tri_iSeq, tri_itsL, tri_itsT, tri_itsC, tri_iRan, tri_range, tri_iG, tri_enum, tri_comp, tri_tupL, tri_tupT, tri_pure, tri_bind, tri_need, tri_lim, vw, allM, Sl.see, isSto, ixN, atI, SM.all, dLen1]
  refine gridD_h hg ?_
  subst q2 r2
  refine of_at q3 h1 (by omega) fun g1 hg1 => ?_
  refine gridD_w hg ?_
  refine of_at r3 h2 (by omega) fun g2 hg2 => ?_
  refine turn_at hg2 h2 (by omega) fun g3 hg3 => ?_
  refine behind_at hg1 hg h1 (by omega) (by omega) fun g4 hg4 => ?_
  refine behind_at hg4 hg3 h1 (by omega) h2 fun g5 hg5 => ?_
  refine ⟨by omega, ones_comp (by simp) q5 fun L1 l1 l2 => ?_⟩
  refine of_at l2 (by omega) h1 fun g6 hg6 => ?_
  refine ⟨by omega, ones_comp (by simp) r5 fun L2 l3 l4 => ?_⟩
  refine of_at l4 (by omega) h2 fun g7 hg7 => ?_
  refine turn_at hg7 (by omega) h2 fun g8 hg8 => ?_
  exact hP m2 g5 _ r1 hg5
theorem way_at {m : SM} {n h w : Nat} {P : D → SM → Prop} (hm : SI m) (ha : n ≤ h) (hb : n ≤ w) (h1 : h ≤ 1000) (h2 : w ≤ 1000) (hP : ∀ m' d, SI m' → IsGrid h w d → P d m') : Tri (den__law_way [.sto, .int n, .int h, .int w]) m P := by
  unfold den__law_way
  simp [tri_runF, triF_seq, triF_nx, triF_rt, triF_bk, triF_ct, triF_ret, triF_if, triF_asg, triF_new, triF_setS, triF_setSt, triF_for, aft_nx, aft_rt, aft_rf, fin_rt, fin_rf, triF_retO, fin_nx, tri_fC, tri_gVar, tri_f2, tri_f1, tri_fL, tri_aN, tri_aC, tri_fTup, tri_lDis, tri_fNew, tri_fNot, tri_fAnd, tri_fOr, tri_fIf, tri_fCh, tri_tT, tri_t2, tri_tYes, tri_tNo, tri_tAnd, tri_tOr, tri_asB, tri_truB, tri_truI, tri_truL, tri_truT, tri_truN, tri_add, tri_sub, tri_lt, tri_le, tri_gt, tri_ge, tri_mod, tri_div, tri_pow, tri_mul, tri_int, tri_len, tri_min, tri_max, tri_eqI, tri_ixL, tri_ixT, tri_ixC, tri_ixS, tri_iSeq, tri_itsL, tri_itsT, tri_itsC, tri_iRan, tri_range, tri_iG, tri_enum, tri_comp, tri_tupL, tri_tupT, tri_pure, tri_bind, tri_need, tri_lim, vw, allM, Sl.see, isSto, ixN, atI, SM.all, dLen1]
  refine order_at hm (by omega) fun m1 g q1 q2 => ?_
  refine spread_at q1 q2 ha hb h1 h2 fun m2 d r r1 r2 => ?_
  rw [tri_ixL]
  exact ⟨d, by simp [atI, ixN], hP m2 d r1 r2⟩
theorem not_at {m : SM} {h w : Nat} {g : D} {P : D → SM → Prop} (hg : IsGrid h w g) (h1 : h ≤ 1000) (h2 : w ≤ 1000) (hP : ∀ d, IsGrid h w d → P d m) : Tri (den__law_not [g]) m P := by
  obtain ⟨rows, a, b, eg⟩ := hg.ex
  subst eg
  unfold den__law_not gridD
  simp [tri_runF, triF_seq, triF_nx, triF_rt, triF_bk, triF_ct, triF_ret, triF_if, triF_asg, triF_new, triF_setS, triF_setSt, triF_for, aft_nx, aft_rt, aft_rf, fin_rt, fin_rf, triF_retO, fin_nx, tri_fC, tri_gVar, tri_f2, tri_f1, tri_fL, tri_aN, tri_aC, tri_fTup, tri_lDis, tri_fNew, tri_fNot, tri_fAnd, tri_fOr, tri_fIf, tri_fCh, tri_tT, tri_t2, tri_tYes, tri_tNo, tri_tAnd, tri_tOr, tri_asB, tri_truB, tri_truI, tri_truL, tri_truT, tri_truN, tri_add, tri_sub, tri_lt, tri_le, tri_gt, tri_ge, tri_mod, tri_div, tri_pow, tri_mul, tri_int, tri_len, tri_min, tri_max, tri_eqI, tri_ixL, tri_ixT, tri_ixC, tri_ixS, tri_iSeq, tri_itsL, tri_itsT, tri_itsC, tri_iRan, tri_range, tri_iG, tri_enum, tri_comp, tri_tupL, tri_tupT, tri_pure, tri_bind, tri_need, tri_lim, vw, allM, Sl.see, isSto, ixN, atI, SM.all, dLen1]
  refine ⟨rfl, ?_⟩
  refine triF_loop (fun j ρ m' => m' = m ∧ ∃ s2 s3, ρ = [.va (.tup [.str "table", .int h, .int w, .tup (rows.map fun r => .tup (r.map .bl))]), .ow ((rows.take j).map fun r => .tup (r.map fun c => .bl (!c))), s2, s3]) _ 0 _ m ⟨rfl, _, _, rfl⟩ (fun j d ρ m' hd hI => ?_) (fun ρ m' hI => ?_)
  · obtain ⟨em, s2, s3, eρ⟩ := hI
    subst eρ em
    have hjr : j < rows.length := by
      by_cases hh : j < rows.length
      · exact hh
      · rw [List.getElem?_eq_none (by simpa using hh)] at hd; cases hd
    have ed : d = .tup (rows[j].map .bl) := by
      rw [List.getElem?_map, List.getElem?_eq_getElem hjr] at hd
      exact (Option.some.inj hd).symm
    subst ed
    have lr := b _ (List.getElem_mem hjr)
    refine ⟨_, rfl, ?_⟩
    rw [triF_app]
    refine ⟨_, rfl, ?_⟩
    simp [tri_runF, triF_seq, triF_nx, triF_rt, triF_bk, triF_ct, triF_ret, triF_if, triF_asg, triF_new, triF_setS, triF_setSt, triF_for, aft_nx, aft_rt, aft_rf, fin_rt, fin_rf, triF_retO, fin_nx, tri_fC, tri_gVar, tri_f2, tri_f1, tri_fL, tri_aN, tri_aC, tri_fTup, tri_lDis, tri_fNew, tri_fNot, tri_fAnd, tri_fOr, tri_fIf, tri_fCh, tri_tT, tri_t2, tri_tYes, tri_tNo, tri_tAnd, tri_tOr, tri_asB, tri_truB, tri_truI, tri_truL, tri_truT, tri_truN, tri_add, tri_sub, tri_lt, tri_le, tri_gt, tri_ge, tri_mod, tri_div, tri_pow, tri_mul, tri_int, tri_len, tri_min, tri_max, tri_eqI, tri_ixL, tri_ixT, tri_ixC, tri_ixS, tri_iSeq, tri_itsL, tri_itsT, tri_itsC, tri_iRan, tri_range, tri_iG, tri_enum, tri_comp, tri_tupL, tri_tupT, tri_pure, tri_bind, tri_need, tri_lim, vw, allM, Sl.see, isSto, ixN, atI, SM.all, dLen1]
    refine ⟨by omega, ?_⟩
    refine tri_compM (fun d => match d with | .bl c => .bl (!c) | _ => .non) _ (fun d hd => ?_) ?_
    · obtain ⟨c, hc, e⟩ := List.mem_map.mp hd
      subst e
      refine ⟨_, rfl, ?_⟩
      simp [tri_runF, triF_seq, triF_nx, triF_rt, triF_bk, triF_ct, triF_ret, triF_if, triF_asg, triF_new, triF_setS, triF_setSt, triF_for, aft_nx, aft_rt, aft_rf, fin_rt, fin_rf, triF_retO, fin_nx, tri_fC, tri_gVar, tri_f2, tri_f1, tri_fL, tri_aN, tri_aC, tri_fTup, tri_lDis, tri_fNew, tri_fNot, tri_fAnd, tri_fOr, tri_fIf, tri_fCh, tri_tT, tri_t2, tri_tYes, tri_tNo, tri_tAnd, tri_tOr, tri_asB, tri_truB, tri_truI, tri_truL, tri_truT, tri_truN, tri_add, tri_sub, tri_lt, tri_le, tri_gt, tri_ge, tri_mod, tri_div, tri_pow, tri_mul, tri_int, tri_len, tri_min, tri_max, tri_eqI, tri_ixL, tri_ixT, tri_ixC, tri_ixS, tri_iSeq, tri_itsL, tri_itsT, tri_itsC, tri_iRan, tri_range, tri_iG, tri_enum, tri_comp, tri_tupL, tri_tupT, tri_pure, tri_bind, tri_need, tri_lim, vw, allM, Sl.see, isSto, ixN, atI, SM.all, dLen1]
    · refine ⟨by omega, rfl, ?_⟩
      rw [List.take_succ, List.getElem?_map, List.getElem?_eq_getElem hjr]
      simp
  · obtain ⟨em, s2, s3, eρ⟩ := hI
    subst eρ em
    simp [tri_runF, triF_seq, triF_nx, triF_rt, triF_bk, triF_ct, triF_ret, triF_if, triF_asg, triF_new, triF_setS, triF_setSt, triF_for, aft_nx, aft_rt, aft_rf, fin_rt, fin_rf, triF_retO, fin_nx, tri_fC, tri_gVar, tri_f2, tri_f1, tri_fL, tri_aN, tri_aC, tri_fTup, tri_lDis, tri_fNew, tri_fNot, tri_fAnd, tri_fOr, tri_fIf, tri_fCh, tri_tT, tri_t2, tri_tYes, tri_tNo, tri_tAnd, tri_tOr, tri_asB, tri_truB, tri_truI, tri_truL, tri_truT, tri_truN, tri_add, tri_sub, tri_lt, tri_le, tri_gt, tri_ge, tri_mod, tri_div, tri_pow, tri_mul, tri_int, tri_len, tri_min, tri_max, tri_eqI, tri_ixL, tri_ixT, tri_ixC, tri_ixS, tri_iSeq, tri_itsL, tri_itsT, tri_itsC, tri_iRan, tri_range, tri_iG, tri_enum, tri_comp, tri_tupL, tri_tupT, tri_pure, tri_bind, tri_need, tri_lim, vw, allM, Sl.see, isSto, ixN, atI, SM.all, dLen1]
    refine hP _ (IsGrid.mk ⟨rows.map fun r => r.map fun c => !c, by simp [a], fun r hr => ?_, ?_⟩)
    · obtain ⟨r', hr', e⟩ := List.mem_map.mp hr
      rw [← e, List.length_map, b r' hr']
    · simp [gridD, Function.comp_def]
theorem unit_at {m : SM} {n : Nat} {P : D → SM → Prop} (hn : n ≤ 1000) (hP : ∀ d, IsGrid n n d → P d m) : Tri (den__law_unit [.int n]) m P := by
  unfold den__law_unit
  simp [tri_runF, triF_seq, triF_nx, triF_rt, triF_bk, triF_ct, triF_ret, triF_if, triF_asg, triF_new, triF_setS, triF_setSt, triF_for, aft_nx, aft_rt, aft_rf, fin_rt, fin_rf, triF_retO, fin_nx, tri_fC, tri_gVar, tri_f2, tri_f1, tri_fL, tri_aN, tri_aC, tri_fTup, tri_lDis, tri_fNew, tri_fNot, tri_fAnd, tri_fOr, tri_fIf, tri_fCh, tri_tT, tri_t2, tri_tYes, tri_tNo, tri_tAnd, tri_tOr, tri_asB, tri_truB, tri_truI, tri_truL, tri_truT, tri_truN, tri_add, tri_sub, tri_lt, tri_le, tri_gt, tri_ge, tri_mod, tri_div, tri_pow, tri_mul, tri_int, tri_len, tri_min, tri_max, tri_eqI, tri_ixL, tri_ixT, tri_ixC, tri_ixS, tri_iSeq, tri_itsL, tri_itsT, tri_itsC, tri_iRan, tri_range, tri_iG, tri_enum, tri_comp, tri_tupL, tri_tupT, tri_pure, tri_bind, tri_need, tri_lim, vw, allM, Sl.see, isSto, ixN, atI, SM.all, dLen1]
  refine ⟨by omega, by omega, ?_⟩
  refine tri_compM (fun d => .tup [d]) _ (fun d hd => ⟨_, rfl, ?_⟩) ?_
  · simp only [tri_fTup, tri_aC, tri_gVar]
    exact ⟨_, rfl, tri_aN.mpr ⟨by simp, rfl, rfl⟩⟩
  · have hall : ∀ d ∈ ((List.range n).map fun i : Nat => D.int (i : Int)).map (fun d => D.tup [d]), IsLot n d := fun d hd => by
      obtain ⟨x, hx, e⟩ := List.mem_map.mp hd
      obtain ⟨k, hk, e2⟩ := List.mem_map.mp hx
      have := List.mem_range.mp hk
      subst e e2
      exact one_lot (by omega)
    have := of_at (m := m) (P := P) (w := n) hall (by simpa using hn) hn (by simpa using hP)
    exact this
theorem lot2 {w a b : Int} (h1 : 0 ≤ a ∧ a < w) (h2 : 0 ≤ b ∧ b < w) : IsLot w (.tup [.int a, .int b]) := ⟨[a, b], rfl, by simpa using ⟨h1, h2⟩, by simp⟩
theorem lot1 {w a : Int} (h1 : 0 ≤ a ∧ a < w) : IsLot w (.tup [.int a]) := ⟨[a], rfl, by simpa using h1, by simp⟩
theorem lost_at {m : SM} {h w : Nat} {P : D → SM → Prop} (hm : SI m) (h0 : 2 < h) (w0 : 2 < w) (h1 : h ≤ 1000) (h2 : w ≤ 1000) (hP : ∀ m' d, SI m' → IsGrid h w d → P d m') : Tri (den__law_lost [.sto, .int h, .int w]) m P := by
  unfold den__law_lost
  have A : ∀ (m : SM) (P : D → SM → Prop), (∀ d, IsGrid 3 3 d → P d m) → Tri (den__law_of [.lst [.tup [.int 0, .int 1], .tup [.int 0, .int 2], .tup [.int 1, .int 2]], .int 3]) m P := fun m P hP =>
    of_at (w := 3) (L := [.tup [.int 0, .int 1], .tup [.int 0, .int 2], .tup [.int 1, .int 2]]) (fun d hd => by
      simp at hd
      rcases hd with e | e | e <;> (rw [e]; exact lot2 (by decide) (by decide))) (by simp) (by decide) hP
  have B : ∀ (m : SM) (P : D → SM → Prop), (∀ d, IsGrid 3 3 d → P d m) → Tri (den__law_of [.lst [.tup [.int 0], .tup [.int 0, .int 1], .tup [.int 1, .int 2]], .int 3]) m P := fun m P hP =>
    of_at (w := 3) (L := [.tup [.int 0], .tup [.int 0, .int 1], .tup [.int 1, .int 2]]) (fun d hd => by
      simp at hd
      rcases hd with e | e | e <;> (rw [e]; first | exact lot2 (by decide) (by decide) | exact lot1 (by decide))) (by simp) (by decide) hP
  have C : ∀ (m : SM) (P : D → SM → Prop), (∀ d, IsGrid 4 3 d → P d m) → Tri (den__law_of [.lst [.tup [.int 0], .tup [.int 0, .int 1], .tup [.int 0, .int 2], .tup [.int 1, .int 2]], .int 3]) m P := fun m P hP =>
    of_at (w := 3) (L := [.tup [.int 0], .tup [.int 0, .int 1], .tup [.int 0, .int 2], .tup [.int 1, .int 2]]) (fun d hd => by
      simp at hd
      rcases hd with e | e | e | e <;> (rw [e]; first | exact lot2 (by decide) (by decide) | exact lot1 (by decide))) (by simp) (by decide) hP
  -- what is picked fits
  have last : ∀ (m : SM) (gs : List D), SI m → gs ≠ [] → gs.length ≤ 1000 → (∀ g ∈ gs, ∃ a b, a ≤ h ∧ b ≤ w ∧ IsGrid a b g) → Tri (den__law_pick [.sto, .lst gs]) m fun d m => Tri (den__law_spread [.sto, d, .int h, .int w]) m fun d m => Tri (dIx d (.int 0)) m P := fun m gs hm hne hl hgs => by
    refine pick_at hm hne hl fun m1 g q1 q2 => ?_
    obtain ⟨a, b, ha, hb, hg⟩ := hgs g q2
    refine spread_at q1 hg ha hb h1 h2 fun m2 d r r1 r2 => ?_
    rw [tri_ixL]
    exact ⟨d, by simp [atI, ixN], hP m2 d r1 r2⟩
  simp [tri_runF, triF_seq, triF_nx, triF_rt, triF_bk, triF_ct, triF_ret, triF_if, triF_asg, triF_new, triF_setS, triF_setSt, triF_for, aft_nx, aft_rt, aft_rf, fin_rt, fin_rf, triF_retO, fin_nx, tri_fC, tri_gVar, tri_f2, tri_f1, tri_fL, tri_aN, tri_aC, tri_fTup, tri_lDis, tri_fNew, tri_fNot, tri_fAnd, tri_fOr, tri_fIf, tri_fCh, tri_tT, tri_t2, tri_tYes, tri_tNo, tri_tAnd, tri_tOr, tri_asB, tri_truB, tri_truI, tri_truL, tri_truT, tri_truN, tri_add, tri_sub, tri_lt, tri_le, tri_gt, tri_ge, tri_mod, tri_div, tri_pow, tri_mul, tri_int, tri_len, tri_min, tri_max, tri_eqI, tri_ixL, tri_ixT, tri_ixC, tri_ixS, tri_iSeq, tri_itsL, tri_itsT, tri_itsC, tri_iRan, tri_range, tri_iG, tri_enum, tri_comp, tri_tupL, tri_tupT, tri_pure, tri_bind, tri_need, tri_lim, vw, allM, Sl.see, isSto, ixN, atI, SM.all, dLen1]
  refine A _ _ fun g1 hg1 => ?_
  refine B _ _ fun g2 hg2 => ?_
  refine ⟨rfl, ?_⟩
  simp only [triF_app]
  simp [tri_runF, triF_seq, triF_nx, triF_rt, triF_bk, triF_ct, triF_ret, triF_if, triF_asg, triF_new, triF_setS, triF_setSt, triF_for, aft_nx, aft_rt, aft_rf, fin_rt, fin_rf, triF_retO, fin_nx, tri_fC, tri_gVar, tri_f2, tri_f1, tri_fL, tri_aN, tri_aC, tri_fTup, tri_lDis, tri_fNew, tri_fNot, tri_fAnd, tri_fOr, tri_fIf, tri_fCh, tri_tT, tri_t2, tri_tYes, tri_tNo, tri_tAnd, tri_tOr, tri_asB, tri_truB, tri_truI, tri_truL, tri_truT, tri_truN, tri_add, tri_sub, tri_lt, tri_le, tri_gt, tri_ge, tri_mod, tri_div, tri_pow, tri_mul, tri_int, tri_len, tri_min, tri_max, tri_eqI, tri_ixL, tri_ixT, tri_ixC, tri_ixS, tri_iSeq, tri_itsL, tri_itsT, tri_itsC, tri_iRan, tri_range, tri_iG, tri_enum, tri_comp, tri_tupL, tri_tupT, tri_pure, tri_bind, tri_need, tri_lim, vw, allM, Sl.see, isSto, ixN, atI, SM.all, dLen1]
  by_cases a : (3 : Int) < h
  · by_cases c : (3 : Int) < w
    · simp only [a, c, if_true, if_false]
      refine C _ _ fun g3 hg3 => ?_
      simp only [triF_app]
      simp [tri_runF, triF_seq, triF_nx, triF_rt, triF_bk, triF_ct, triF_ret, triF_if, triF_asg, triF_new, triF_setS, triF_setSt, triF_for, aft_nx, aft_rt, aft_rf, fin_rt, fin_rf, triF_retO, fin_nx, tri_fC, tri_gVar, tri_f2, tri_f1, tri_fL, tri_aN, tri_aC, tri_fTup, tri_lDis, tri_fNew, tri_fNot, tri_fAnd, tri_fOr, tri_fIf, tri_fCh, tri_tT, tri_t2, tri_tYes, tri_tNo, tri_tAnd, tri_tOr, tri_asB, tri_truB, tri_truI, tri_truL, tri_truT, tri_truN, tri_add, tri_sub, tri_lt, tri_le, tri_gt, tri_ge, tri_mod, tri_div, tri_pow, tri_mul, tri_int, tri_len, tri_min, tri_max, tri_eqI, tri_ixL, tri_ixT, tri_ixC, tri_ixS, tri_iSeq, tri_itsL, tri_itsT, tri_itsC, tri_iRan, tri_range, tri_iG, tri_enum, tri_comp, tri_tupL, tri_tupT, tri_pure, tri_bind, tri_need, tri_lim, vw, allM, Sl.see, isSto, ixN, atI, SM.all, dLen1]
      try simp only [a, c, if_true, if_false]
      refine C _ _ fun g4 hg4 => ?_
      refine turn_at hg4 (by decide) (by decide) fun g4' hg4' => ?_
      simp only [triF_app]
      simp [tri_runF, triF_seq, triF_nx, triF_rt, triF_bk, triF_ct, triF_ret, triF_if, triF_asg, triF_new, triF_setS, triF_setSt, triF_for, aft_nx, aft_rt, aft_rf, fin_rt, fin_rf, triF_retO, fin_nx, tri_fC, tri_gVar, tri_f2, tri_f1, tri_fL, tri_aN, tri_aC, tri_fTup, tri_lDis, tri_fNew, tri_fNot, tri_fAnd, tri_fOr, tri_fIf, tri_fCh, tri_tT, tri_t2, tri_tYes, tri_tNo, tri_tAnd, tri_tOr, tri_asB, tri_truB, tri_truI, tri_truL, tri_truT, tri_truN, tri_add, tri_sub, tri_lt, tri_le, tri_gt, tri_ge, tri_mod, tri_div, tri_pow, tri_mul, tri_int, tri_len, tri_min, tri_max, tri_eqI, tri_ixL, tri_ixT, tri_ixC, tri_ixS, tri_iSeq, tri_itsL, tri_itsT, tri_itsC, tri_iRan, tri_range, tri_iG, tri_enum, tri_comp, tri_tupL, tri_tupT, tri_pure, tri_bind, tri_need, tri_lim, vw, allM, Sl.see, isSto, ixN, atI, SM.all, dLen1]
      try simp only [a, c, if_true, if_false]
      refine unit_at (n := 4) (by decide) fun g5 hg5 => ?_
      refine not_at hg5 (by decide) (by decide) fun g5' hg5' => ?_
      refine last _ _ hm (by simp) (by simp) fun g hg => ?_
      simp at hg
      rcases hg with e | e | e | e | e <;> subst e
      · exact ⟨3, 3, by omega, by omega, hg1⟩
      · exact ⟨3, 3, by omega, by omega, hg2⟩
      · exact ⟨4, 3, by omega, by omega, hg3⟩
      · exact ⟨3, 4, by omega, by omega, hg4'⟩
      · exact ⟨4, 4, by omega, by omega, hg5'⟩
    · simp only [a, c, if_true, if_false]
      refine C _ _ fun g3 hg3 => ?_
      try simp only [a, c, if_true, if_false]
      refine last _ _ hm (by simp) (by simp) fun g hg => ?_
      simp at hg
      rcases hg with e | e | e <;> subst e
      · exact ⟨3, 3, by omega, by omega, hg1⟩
      · exact ⟨3, 3, by omega, by omega, hg2⟩
      · exact ⟨4, 3, by omega, by omega, hg3⟩
  · by_cases c : (3 : Int) < w
    · simp only [a, c, if_true, if_false]
      refine C _ _ fun g4 hg4 => ?_
      refine turn_at hg4 (by decide) (by decide) fun g4' hg4' => ?_
      refine last _ _ hm (by simp) (by simp) fun g hg => ?_
      simp at hg
      rcases hg with e | e | e <;> subst e
      · exact ⟨3, 3, by omega, by omega, hg1⟩
      · exact ⟨3, 3, by omega, by omega, hg2⟩
      · exact ⟨3, 4, by omega, by omega, hg4'⟩
    · simp only [a, c, if_true, if_false]
      refine last _ _ hm (by simp) (by simp) fun g hg => ?_
      simp at hg
      rcases hg with e | e <;> subst e
      · exact ⟨3, 3, by omega, by omega, hg1⟩
      · exact ⟨3, 3, by omega, by omega, hg2⟩
end Hd
set_option Elab.async false
set_option linter.all false
set_option maxRecDepth 100000
set_option maxHeartbeats 4000000
namespace Hd
open PySem PySem.Spec PyProof.Rows L2 Den
theorem grid_at {m : SM} {h w : Nat} {P : D → SM → Prop} (hm : SI m) (h1 : h ≤ 1000) (h2 : w ≤ 1000) (hP : ∀ m' d, SI m' → IsGrid h w d → P d m') : Tri (den__law_grid [.sto, .int h, .int w]) m P := by
  unfold den__law_grid
  simp [tri_runF, triF_seq, triF_nx, triF_rt, triF_bk, triF_ct, triF_ret, triF_if, triF_asg, triF_new, triF_setS, triF_setSt, triF_for, aft_nx, aft_rt, aft_rf, fin_rt, fin_rf, triF_retO, fin_nx, tri_fC, tri_gVar, tri_f2, tri_f1, tri_fL, tri_aN, tri_aC, tri_fTup, tri_lDis, tri_fNew, tri_fNot, tri_fAnd, tri_fOr, tri_fIf, tri_fCh, tri_tT, tri_t2, tri_tYes, tri_tNo, tri_tAnd, tri_tOr, tri_asB, tri_truB, tri_truI, tri_truL, tri_truT, tri_truN, tri_add, tri_sub, tri_lt, tri_le, tri_gt, tri_ge, tri_mod, tri_div, tri_pow, tri_mul, tri_int, tri_len, tri_min, tri_max, tri_eqI, tri_ixL, tri_ixT, tri_ixC, tri_ixS, tri_iSeq, tri_itsL, tri_itsT, tri_itsC, tri_iRan, tri_range, tri_iG, tri_enum, tri_comp, tri_tupL, tri_tupT, tri_pure, tri_bind, tri_need, tri_lim, vw, allM, Sl.see, isSto, ixN, atI, SM.all, dLen1]
  refine take_at hm (by decide) fun m1 z k1 k2 k3 => ?_
  simp [tri_runF, triF_seq, triF_nx, triF_rt, triF_bk, triF_ct, triF_ret, triF_if, triF_asg, triF_new, triF_setS, triF_setSt, triF_for, aft_nx, aft_rt, aft_rf, fin_rt, fin_rf, triF_retO, fin_nx, tri_fC, tri_gVar, tri_f2, tri_f1, tri_fL, tri_aN, tri_aC, tri_fTup, tri_lDis, tri_fNew, tri_fNot, tri_fAnd, tri_fOr, tri_fIf, tri_fCh, tri_tT, tri_t2, tri_tYes, tri_tNo, tri_tAnd, tri_tOr, tri_asB, tri_truB, tri_truI, tri_truL, tri_truT, tri_truN, tri_add, tri_sub, tri_lt, tri_le, tri_gt, tri_ge, tri_mod, tri_div, tri_pow, tri_mul, tri_int, tri_len, tri_min, tri_max, tri_eqI, tri_ixL, tri_ixT, tri_ixC, tri_ixS, tri_iSeq, tri_itsL, tri_itsT, tri_itsC, tri_iRan, tri_range, tri_iG, tri_enum, tri_comp, tri_tupL, tri_tupT, tri_pure, tri_bind, tri_need, tri_lim, vw, allM, Sl.see, isSto, ixN, atI, SM.all, dLen1]
  split
  · refine take_at k1 (by decide) fun m2 y q1 q2 q3 => ?_
    refine ⟨by omega, by omega, ran_comp (by simp) ?_⟩
    refine ⟨by omega, by omega, ?_⟩
    refine tri_compE SI (fun d y => IsLot w y) true _ q1 (fun d hd m hm => ?_) fun ys m3 r1 r2 r3 r4 => ?_
    · obtain ⟨i, hi, e⟩ := List.mem_map.mp hd
      subst e
      refine ⟨_, rfl, ?_⟩
      simp [tri_runF, triF_seq, triF_nx, triF_rt, triF_bk, triF_ct, triF_ret, triF_if, triF_asg, triF_new, triF_setS, triF_setSt, triF_for, aft_nx, aft_rt, aft_rf, fin_rt, fin_rf, triF_retO, fin_nx, tri_fC, tri_gVar, tri_f2, tri_f1, tri_fL, tri_aN, tri_aC, tri_fTup, tri_lDis, tri_fNew, tri_fNot, tri_fAnd, tri_fOr, tri_fIf, tri_fCh, tri_tT, tri_t2, tri_tYes, tri_tNo, tri_tAnd, tri_tOr, tri_asB, tri_truB, tri_truI, tri_truL, tri_truT, tri_truN, tri_add, tri_sub, tri_lt, tri_le, tri_gt, tri_ge, tri_mod, tri_div, tri_pow, tri_mul, tri_int, tri_len, tri_min, tri_max, tri_eqI, tri_ixL, tri_ixT, tri_ixC, tri_ixS, tri_iSeq, tri_itsL, tri_itsT, tri_itsC, tri_iRan, tri_range, tri_iG, tri_enum, tri_comp, tri_tupL, tri_tupT, tri_pure, tri_bind, tri_need, tri_lim, vw, allM, Sl.see, isSto, ixN, atI, SM.all, dLen1]
      refine ⟨by omega, by omega, lot_comp (n := (w : Int)) hm (by simp) (by omega) (fun i m hm hi => ?_) fun ds m4 t1 t2 => ?_⟩
      · simp [tri_runF, triF_seq, triF_nx, triF_rt, triF_bk, triF_ct, triF_ret, triF_if, triF_asg, triF_new, triF_setS, triF_setSt, triF_for, aft_nx, aft_rt, aft_rf, fin_rt, fin_rf, triF_retO, fin_nx, tri_fC, tri_gVar, tri_f2, tri_f1, tri_fL, tri_aN, tri_aC, tri_fTup, tri_lDis, tri_fNew, tri_fNot, tri_fAnd, tri_fOr, tri_fIf, tri_fCh, tri_tT, tri_t2, tri_tYes, tri_tNo, tri_tAnd, tri_tOr, tri_asB, tri_truB, tri_truI, tri_truL, tri_truT, tri_truN, tri_add, tri_sub, tri_lt, tri_le, tri_gt, tri_ge, tri_mod, tri_div, tri_pow, tri_mul, tri_int, tri_len, tri_min, tri_max, tri_eqI, tri_ixL, tri_ixT, tri_ixC, tri_ixS, tri_iSeq, tri_itsL, tri_itsT, tri_itsC, tri_iRan, tri_range, tri_iG, tri_enum, tri_comp, tri_tupL, tri_tupT, tri_pure, tri_bind, tri_need, tri_lim, vw, allM, Sl.see, isSto, ixN, atI, SM.all, dLen1]; exact hm
      · rcases (show y = 0 ∨ y = 1 ∨ y = 2 by omega) with e | e | e
        · subst e; simp [tri_runF, triF_seq, triF_nx, triF_rt, triF_bk, triF_ct, triF_ret, triF_if, triF_asg, triF_new, triF_setS, triF_setSt, triF_for, aft_nx, aft_rt, aft_rf, fin_rt, fin_rf, triF_retO, fin_nx, tri_fC, tri_gVar, tri_f2, tri_f1, tri_fL, tri_aN, tri_aC, tri_fTup, tri_lDis, tri_fNew, tri_fNot, tri_fAnd, tri_fOr, tri_fIf, tri_fCh, tri_tT, tri_t2, tri_tYes, tri_tNo, tri_tAnd, tri_tOr, tri_asB, tri_truB, tri_truI, tri_truL, tri_truT, tri_truN, tri_add, tri_sub, tri_lt, tri_le, tri_gt, tri_ge, tri_mod, tri_div, tri_pow, tri_mul, tri_int, tri_len, tri_min, tri_max, tri_eqI, tri_ixL, tri_ixT, tri_ixC, tri_ixS, tri_iSeq, tri_itsL, tri_itsT, tri_itsC, tri_iRan, tri_range, tri_iG, tri_enum, tri_comp, tri_tupL, tri_tupT, tri_pure, tri_bind, tri_need, tri_lim, vw, allM, Sl.see, isSto, ixN, atI, SM.all, dLen1]; exact ⟨nil_lot, t1⟩
        · subst e; simp [tri_runF, triF_seq, triF_nx, triF_rt, triF_bk, triF_ct, triF_ret, triF_if, triF_asg, triF_new, triF_setS, triF_setSt, triF_for, aft_nx, aft_rt, aft_rf, fin_rt, fin_rf, triF_retO, fin_nx, tri_fC, tri_gVar, tri_f2, tri_f1, tri_fL, tri_aN, tri_aC, tri_fTup, tri_lDis, tri_fNew, tri_fNot, tri_fAnd, tri_fOr, tri_fIf, tri_fCh, tri_tT, tri_t2, tri_tYes, tri_tNo, tri_tAnd, tri_tOr, tri_asB, tri_truB, tri_truI, tri_truL, tri_truT, tri_truN, tri_add, tri_sub, tri_lt, tri_le, tri_gt, tri_ge, tri_mod, tri_div, tri_pow, tri_mul, tri_int, tri_len, tri_min, tri_max, tri_eqI, tri_ixL, tri_ixT, tri_ixC, tri_ixS, tri_iSeq, tri_itsL, tri_itsT, tri_itsC, tri_iRan, tri_range, tri_iG, tri_enum, tri_comp, tri_tupL, tri_tupT, tri_pure, tri_bind, tri_need, tri_lim, vw, allM, Sl.see, isSto, ixN, atI, SM.all, dLen1]; exact ⟨every_lot w h2, t1⟩
        · subst e; simp [tri_runF, triF_seq, triF_nx, triF_rt, triF_bk, triF_ct, triF_ret, triF_if, triF_asg, triF_new, triF_setS, triF_setSt, triF_for, aft_nx, aft_rt, aft_rf, fin_rt, fin_rf, triF_retO, fin_nx, tri_fC, tri_gVar, tri_f2, tri_f1, tri_fL, tri_aN, tri_aC, tri_fTup, tri_lDis, tri_fNew, tri_fNot, tri_fAnd, tri_fOr, tri_fIf, tri_fCh, tri_tT, tri_t2, tri_tYes, tri_tNo, tri_tAnd, tri_tOr, tri_asB, tri_truB, tri_truI, tri_truL, tri_truT, tri_truN, tri_add, tri_sub, tri_lt, tri_le, tri_gt, tri_ge, tri_mod, tri_div, tri_pow, tri_mul, tri_int, tri_len, tri_min, tri_max, tri_eqI, tri_ixL, tri_ixT, tri_ixC, tri_ixS, tri_iSeq, tri_itsL, tri_itsT, tri_itsC, tri_iRan, tri_range, tri_iG, tri_enum, tri_comp, tri_tupL, tri_tupT, tri_pure, tri_bind, tri_need, tri_lim, vw, allM, Sl.see, isSto, ixN, atI, SM.all, dLen1]; exact ⟨t2, t1⟩
    · have ly : ys.length = h := by simpa using r3 rfl
      subst ly
      exact of_at (fun y hy => by
        obtain ⟨_, _, q⟩ := r4 y hy
        exact q) h1 h2 fun d hd => hP m3 d r1 hd
  have rest : (if z = 5 then Tri (den__law_rect [D.sto, D.int ↑h, D.int ↑w]) m1 fun d m => P d m
          else Tri (den__law_free [D.sto, D.int ↑h, D.int ↑w]) m1 fun d m => P d m) := by
    split
    · exact rect_at k1 h1 h2 fun m' d a b => hP m' d a b
    · exact free_at k1 h1 h2 fun m' d a b => hP m' d a b
  split
  · exact twin_at k1 h1 h2 fun m' d a b => hP m' d a b
  split
  · exact twin_at k1 h2 h1 fun m' d a b => turn_at b h2 h1 fun d' c => hP m' d' a c
  split
  · have e : (if w < h then (w : Int) else (h : Int)) = ((min w h : Nat) : Int) := by split <;> omega
    rw [e]
    refine between_at k1 (by omega) (by omega) fun m2 y q1 q2 q3 => ?_
    obtain ⟨n, en⟩ := Int.eq_ofNat_of_zero_le q2
    subst en
    exact way_at q1 (by omega) (by omega) h1 h2 fun m' d a b => hP m' d a b
  split
  · split
    · split
      · exact lost_at k1 (by omega) (by omega) h1 h2 fun m' d a b => hP m' d a b
      · exact rest
    · exact rest
  · exact rest
theorem pure_first (ns : List Int) (m : SM) (h : ns.length ≤ 63) : first_law (ev0 N_law.length ns) m = .ok (.lst (.lst (ns.map .int) :: [0, 0, 0, 0, 314159265358, 0].map .int)) m := by
  have key : Tri (first_law (ev0 N_law.length ns)) m fun d m' => d = .lst (.lst (ns.map .int) :: [0, 0, 0, 0, 314159265358, 0].map .int) ∧ m' = m := by
    unfold first_law ev0 N_law den__law_store
    simp [tri_runF, triF_seq, triF_nx, triF_rt, triF_bk, triF_ct, triF_ret, triF_if, triF_asg, triF_new, triF_setS, triF_setSt, triF_for, aft_nx, aft_rt, aft_rf, fin_rt, fin_rf, triF_retO, fin_nx, tri_fC, tri_gVar, tri_f2, tri_f1, tri_fL, tri_aN, tri_aC, tri_fTup, tri_lDis, tri_fNew, tri_fNot, tri_fAnd, tri_fOr, tri_fIf, tri_fCh, tri_tT, tri_t2, tri_tYes, tri_tNo, tri_tAnd, tri_tOr, tri_asB, tri_truB, tri_truI, tri_truL, tri_truT, tri_truN, tri_add, tri_sub, tri_lt, tri_le, tri_gt, tri_ge, tri_mod, tri_div, tri_pow, tri_mul, tri_int, tri_len, tri_min, tri_max, tri_eqI, tri_ixL, tri_ixT, tri_ixC, tri_ixS, tri_iSeq, tri_itsL, tri_itsT, tri_itsC, tri_iRan, tri_range, tri_iG, tri_enum, tri_comp, tri_tupL, tri_tupT, tri_pure, tri_bind, tri_need, tri_lim, vw, allM, Sl.see, isSto, ixN, atI, SM.all, dLen1]
    simp only [tri_slice]
    simp [tri_runF, triF_seq, triF_nx, triF_rt, triF_bk, triF_ct, triF_ret, triF_if, triF_asg, triF_new, triF_setS, triF_setSt, triF_for, aft_nx, aft_rt, aft_rf, fin_rt, fin_rf, triF_retO, fin_nx, tri_fC, tri_gVar, tri_f2, tri_f1, tri_fL, tri_aN, tri_aC, tri_fTup, tri_lDis, tri_fNew, tri_fNot, tri_fAnd, tri_fOr, tri_fIf, tri_fCh, tri_tT, tri_t2, tri_tYes, tri_tNo, tri_tAnd, tri_tOr, tri_asB, tri_truB, tri_truI, tri_truL, tri_truT, tri_truN, tri_add, tri_sub, tri_lt, tri_le, tri_gt, tri_ge, tri_mod, tri_div, tri_pow, tri_mul, tri_int, tri_len, tri_min, tri_max, tri_eqI, tri_ixL, tri_ixT, tri_ixC, tri_ixS, tri_iSeq, tri_itsL, tri_itsT, tri_itsC, tri_iRan, tri_range, tri_iG, tri_enum, tri_comp, tri_tupL, tri_tupT, tri_pure, tri_bind, tri_need, tri_lim, vw, allM, Sl.see, isSto, ixN, atI, SM.all, dLen1]
    simp only [tri_oNo, tri_oYes]
    simp [tri_runF, triF_seq, triF_nx, triF_rt, triF_bk, triF_ct, triF_ret, triF_if, triF_asg, triF_new, triF_setS, triF_setSt, triF_for, aft_nx, aft_rt, aft_rf, fin_rt, fin_rf, triF_retO, fin_nx, tri_fC, tri_gVar, tri_f2, tri_f1, tri_fL, tri_aN, tri_aC, tri_fTup, tri_lDis, tri_fNew, tri_fNot, tri_fAnd, tri_fOr, tri_fIf, tri_fCh, tri_tT, tri_t2, tri_tYes, tri_tNo, tri_tAnd, tri_tOr, tri_asB, tri_truB, tri_truI, tri_truL, tri_truT, tri_truN, tri_add, tri_sub, tri_lt, tri_le, tri_gt, tri_ge, tri_mod, tri_div, tri_pow, tri_mul, tri_int, tri_len, tri_min, tri_max, tri_eqI, tri_ixL, tri_ixT, tri_ixC, tri_ixS, tri_iSeq, tri_itsL, tri_itsT, tri_itsC, tri_iRan, tri_range, tri_iG, tri_enum, tri_comp, tri_tupL, tri_tupT, tri_pure, tri_bind, tri_need, tri_lim, vw, allM, Sl.see, isSto, ixN, atI, SM.all, dLen1]
    simp only [tri_asI, tri_cutC]
    have hc : cutD ns none (some 63) = ns := by
      have := cut_take ns 63
      rw [show ((63 : Nat) : Int) = 63 from rfl] at this
      rw [this, List.take_of_length_le h]
    rw [hc]
    refine ⟨by simp; omega, ?_⟩
    refine tri_compM (fun d => d) _ (fun d hd => ⟨_, rfl, ?_⟩) (by rw [List.map_id']; exact ⟨rfl, rfl⟩)
    obtain ⟨k, _, e⟩ := List.mem_map.mp hd
    subst e
    simp [tri_runF, triF_seq, triF_nx, triF_rt, triF_bk, triF_ct, triF_ret, triF_if, triF_asg, triF_new, triF_setS, triF_setSt, triF_for, aft_nx, aft_rt, aft_rf, fin_rt, fin_rf, triF_retO, fin_nx, tri_fC, tri_gVar, tri_f2, tri_f1, tri_fL, tri_aN, tri_aC, tri_fTup, tri_lDis, tri_fNew, tri_fNot, tri_fAnd, tri_fOr, tri_fIf, tri_fCh, tri_tT, tri_t2, tri_tYes, tri_tNo, tri_tAnd, tri_tOr, tri_asB, tri_truB, tri_truI, tri_truL, tri_truT, tri_truN, tri_add, tri_sub, tri_lt, tri_le, tri_gt, tri_ge, tri_mod, tri_div, tri_pow, tri_mul, tri_int, tri_len, tri_min, tri_max, tri_eqI, tri_ixL, tri_ixT, tri_ixC, tri_ixS, tri_iSeq, tri_itsL, tri_itsT, tri_itsC, tri_iRan, tri_range, tri_iG, tri_enum, tri_comp, tri_tupL, tri_tupT, tri_pure, tri_bind, tri_need, tri_lim, vw, allM, Sl.see, isSto, ixN, atI, SM.all, dLen1]
  obtain ⟨d, m', e, q1, q2⟩ := key.run
  rw [e, q1, q2]
end Hd
set_option Elab.async false
set_option linter.all false
set_option maxRecDepth 100000
set_option maxHeartbeats 4000000
namespace Den
open PySem PySem.Spec PyProof.Rows L2
section
variable {m : SM} {P : D → SM → Prop} {ρ : EV} {F : EV → M D} {A Ak : EV → M (List D)}
theorem tri_gIsi {oc : Option Str} {cls : List Cl} : Tri (gIsi oc cls F ρ) m P ↔ Tri (F ρ) m fun x m => x.plainOr oc = true ∧ P (.bl (cls.any (isCl x))) m := by
  unfold gIsi; simp only [tri_bind, tri_need, tri_pure]
theorem tri_gProp {c : Str} {g : List D → M D} : Tri (gProp c g F ρ) m P ↔ Tri (F ρ) m fun x m => isObj c x = true ∧ Tri (g [x]) m P := by
  unfold gProp; simp only [tri_bind, tri_need, tri_noErr]
theorem tri_gInv {c : Str} {g : List D → M D} : Tri (gInv c g F ρ) m P ↔ Tri (F ρ) m fun x m => isObj c x = true ∧ Tri (g [x]) m P := by
  unfold gInv; simp only [tri_bind, tri_need]
theorem tri_gFld {c f : Str} : Tri (gFld c f F ρ) m P ↔ Tri (F ρ) m fun x m => Tri (dFld c f x) m P := by
  unfold gFld; simp only [tri_bind]
theorem tri_callK {g : List D → M D} {n k : Nat} {pl : List Nat} {cd : List D} : Tri (gCallK g A Ak n k pl cd ρ) m P ↔ Tri (A ρ) m fun ds m => Tri (Ak ρ) m fun es m => (ds.length = n ∧ es.length = k) ∧ Tri (g (pick pl (ds ++ (es ++ cd)))) m P := by
  unfold gCallK gArgs
  simp only [tri_bind, tri_need, tri_pure, Bool.and_eq_true, decide_eq_true_eq]
theorem tri_lG {g : List D → M (List D)} {P : List D → SM → Prop} : Tri (lG g A ρ) m P ↔ Tri (A ρ) m fun ds m => Tri (g ds) m P := tri_bind
theorem tri_list_tup {xs : List D} {P : List D → SM → Prop} : Tri (dList [.tup xs]) m P ↔ P xs m := by unfold Tri; exact Iff.rfl
theorem tri_isBF {a : Bool} : Tri (dIsN (.bl a) (.bl false)) m P ↔ P (.bl (decide (a = false))) m := by unfold Tri; exact Iff.rfl
theorem tri_isIN {a : Int} : Tri (dIsN (.int a) .non) m P ↔ P (.bl false) m := by unfold Tri; exact Iff.rfl
theorem tri_isBN {a : Bool} : Tri (dIsN (.bl a) .non) m P ↔ P (.bl false) m := by unfold Tri; exact Iff.rfl
end
section
variable {m : SM} {P : Fl → SM → Prop} {ρ : SV} {G : SV → M Fl}
theorem triF_fldS {i : Nat} {c f : Str} {F : EV → M D} {fs : List (Str × D)} (h1 : ρ[i]? = some (.ob c fs)) (h2 : fs.length < 1000) (h : Tri (F (vw [] ρ)) m fun d m => P (.nx (ρ.set i (.ob c (putD f d fs)))) m) : TriF (gFldSet i c f F ρ) m P := by
  unfold gFldSet
  rw [triF_exB]
  refine h.mono fun d m h => ?_
  rw [h1]
  simp only
  rw [triF_need, triF_nx]
  exact ⟨by simp [h2], h⟩
theorem tri_runI {Q : List (Str × D) → SM → Prop} {c : Str} {p n : Nat} {ds : List D} (h1 : ds.length + 1 = p) (h : TriF (G (.ob c [] :: (ds.map .va ++ List.replicate (n - p) .no))) m fun f m' => ∃ c' fs r, f = .nx (.ob c' fs :: r) ∧ Q fs m') : Tri (runI c p n G ds) m Q := by
  unfold Tri runI
  rw [if_pos h1]
  unfold TriF at h
  cases e : G (.ob c [] :: (ds.map .va ++ List.replicate (n - p) .no)) m with
  | ok f m' =>
    rw [e] at h
    cases f with
    | nx ρ' =>
      obtain ⟨c', fs, r, e2, q⟩ := h
      cases e2
      exact q
    | rt d => obtain ⟨_, _, _, e2, _⟩ := h; cases e2
    | rf d => obtain ⟨_, _, _, e2, _⟩ := h; cases e2
    | bk d => obtain ⟨_, _, _, e2, _⟩ := h; cases e2
    | ct d => obtain ⟨_, _, _, e2, _⟩ := h; cases e2
    | ex _ _ _ => exact h.elim
  | err c fs m' => rw [e] at h; exact h
  | bad => rw [e] at h; exact h
end
end Den
namespace Hd
open PySem PySem.Spec PyProof.Rows L2 Den
theorem number_at {m : SM} {i n : Int} {P : D → SM → Prop} (h0 : 0 ≤ i) (h1 : i < n) (hP : P (.bl true) m) : Tri (den_is_number [.int i, .int n]) m P := by
  unfold den_is_number
  simp [tri_runF, triF_seq, triF_nx, triF_rt, triF_bk, triF_ct, triF_ret, triF_if, triF_asg, triF_for, aft_nx, aft_rt, aft_rf, fin_rt, fin_rf, triF_retO, fin_nx, tri_fC, tri_gVar, tri_f2, tri_f1, tri_fL, tri_aN, tri_aC, tri_fTup, tri_lDis, tri_fNew, tri_fNot, tri_fAnd, tri_fOr, tri_fIf, tri_fCh, tri_tT, tri_t2, tri_tYes, tri_tNo, tri_tAnd, tri_tOr, tri_asB, tri_truB, tri_truI, tri_truL, tri_truT, tri_truN, tri_add, tri_sub, tri_lt, tri_le, tri_gt, tri_ge, tri_int, tri_len, tri_eqI, tri_neI, tri_iSeq, tri_itsL, tri_itsT, tri_iRan, tri_range, tri_iG, tri_enum, tri_comp, tri_tupL, tri_tupT, tri_pure, tri_bind, tri_need, tri_lim, tri_noErr, tri_gIsi, tri_gProp, tri_gInv, tri_gFld, tri_callK, tri_lG, tri_list_tup, tri_isBF, tri_isIN, tri_isBN, vw, allM, Sl.see, dLen1, D.plainOr, isCl, D.tyn, Den.isObj, dFld, pick]
  rw [if_pos h0, decide_eq_true h1]
  exact hP
theorem short_at {m : SM} {xs : List D} {P : D → SM → Prop} (h : xs.length ≤ 6) (hP : P (.bl true) m) : Tri (den__is_short [.lst xs]) m P := by
  unfold den__is_short
  simp [tri_runF, triF_seq, triF_nx, triF_rt, triF_bk, triF_ct, triF_ret, triF_if, triF_asg, triF_for, aft_nx, aft_rt, aft_rf, fin_rt, fin_rf, triF_retO, fin_nx, tri_fC, tri_gVar, tri_f2, tri_f1, tri_fL, tri_aN, tri_aC, tri_fTup, tri_lDis, tri_fNew, tri_fNot, tri_fAnd, tri_fOr, tri_fIf, tri_fCh, tri_tT, tri_t2, tri_tYes, tri_tNo, tri_tAnd, tri_tOr, tri_asB, tri_truB, tri_truI, tri_truL, tri_truT, tri_truN, tri_add, tri_sub, tri_lt, tri_le, tri_gt, tri_ge, tri_int, tri_len, tri_eqI, tri_neI, tri_iSeq, tri_itsL, tri_itsT, tri_iRan, tri_range, tri_iG, tri_enum, tri_comp, tri_tupL, tri_tupT, tri_pure, tri_bind, tri_need, tri_lim, tri_noErr, tri_gIsi, tri_gProp, tri_gInv, tri_gFld, tri_callK, tri_lG, tri_list_tup, tri_isBF, tri_isIN, tri_isBN, vw, allM, Sl.see, dLen1, D.plainOr, isCl, D.tyn, Den.isObj, dFld, pick]
  rw [decide_eq_true (by omega)]
  exact hP
theorem isrow_at {m : SM} {r : List Bool} {w : Nat} {P : D → SM → Prop} (h : r.length = w) (hw : w ≤ 6) (hP : P (.bl true) m) : Tri (den__is_row [.lst (r.map .bl), .int w]) m P := by
  unfold den__is_row
  simp [tri_runF, triF_seq, triF_nx, triF_rt, triF_bk, triF_ct, triF_ret, triF_if, triF_asg, triF_for, aft_nx, aft_rt, aft_rf, fin_rt, fin_rf, triF_retO, fin_nx, tri_fC, tri_gVar, tri_f2, tri_f1, tri_fL, tri_aN, tri_aC, tri_fTup, tri_lDis, tri_fNew, tri_fNot, tri_fAnd, tri_fOr, tri_fIf, tri_fCh, tri_tT, tri_t2, tri_tYes, tri_tNo, tri_tAnd, tri_tOr, tri_asB, tri_truB, tri_truI, tri_truL, tri_truT, tri_truN, tri_add, tri_sub, tri_lt, tri_le, tri_gt, tri_ge, tri_int, tri_len, tri_eqI, tri_neI, tri_iSeq, tri_itsL, tri_itsT, tri_iRan, tri_range, tri_iG, tri_enum, tri_comp, tri_tupL, tri_tupT, tri_pure, tri_bind, tri_need, tri_lim, tri_noErr, tri_gIsi, tri_gProp, tri_gInv, tri_gFld, tri_callK, tri_lG, tri_list_tup, tri_isBF, tri_isIN, tri_isBN, vw, allM, Sl.see, dLen1, D.plainOr, isCl, D.tyn, Den.isObj, dFld, pick]
  refine short_at (by simpa using (by omega : r.length ≤ 6)) ?_
  simp [tri_runF, triF_seq, triF_nx, triF_rt, triF_bk, triF_ct, triF_ret, triF_if, triF_asg, triF_for, aft_nx, aft_rt, aft_rf, fin_rt, fin_rf, triF_retO, fin_nx, tri_fC, tri_gVar, tri_f2, tri_f1, tri_fL, tri_aN, tri_aC, tri_fTup, tri_lDis, tri_fNew, tri_fNot, tri_fAnd, tri_fOr, tri_fIf, tri_fCh, tri_tT, tri_t2, tri_tYes, tri_tNo, tri_tAnd, tri_tOr, tri_asB, tri_truB, tri_truI, tri_truL, tri_truT, tri_truN, tri_add, tri_sub, tri_lt, tri_le, tri_gt, tri_ge, tri_int, tri_len, tri_eqI, tri_neI, tri_iSeq, tri_itsL, tri_itsT, tri_iRan, tri_range, tri_iG, tri_enum, tri_comp, tri_tupL, tri_tupT, tri_pure, tri_bind, tri_need, tri_lim, tri_noErr, tri_gIsi, tri_gProp, tri_gInv, tri_gFld, tri_callK, tri_lG, tri_list_tup, tri_isBF, tri_isIN, tri_isBN, vw, allM, Sl.see, dLen1, D.plainOr, isCl, D.tyn, Den.isObj, dFld, pick]
  rw [if_pos (by omega)]
  refine ⟨by omega, tri_compM (fun _ => .bl true) _ (fun d hd => ⟨_, rfl, ?_⟩) ?_⟩
  · obtain ⟨c, hc, e⟩ := List.mem_map.mp hd
    subst e
    simp [tri_runF, triF_seq, triF_nx, triF_rt, triF_bk, triF_ct, triF_ret, triF_if, triF_asg, triF_for, aft_nx, aft_rt, aft_rf, fin_rt, fin_rf, triF_retO, fin_nx, tri_fC, tri_gVar, tri_f2, tri_f1, tri_fL, tri_aN, tri_aC, tri_fTup, tri_lDis, tri_fNew, tri_fNot, tri_fAnd, tri_fOr, tri_fIf, tri_fCh, tri_tT, tri_t2, tri_tYes, tri_tNo, tri_tAnd, tri_tOr, tri_asB, tri_truB, tri_truI, tri_truL, tri_truT, tri_truN, tri_add, tri_sub, tri_lt, tri_le, tri_gt, tri_ge, tri_int, tri_len, tri_eqI, tri_neI, tri_iSeq, tri_itsL, tri_itsT, tri_iRan, tri_range, tri_iG, tri_enum, tri_comp, tri_tupL, tri_tupT, tri_pure, tri_bind, tri_need, tri_lim, tri_noErr, tri_gIsi, tri_gProp, tri_gInv, tri_gFld, tri_callK, tri_lG, tri_list_tup, tri_isBF, tri_isIN, tri_isBN, vw, allM, Sl.see, dLen1, D.plainOr, isCl, D.tyn, Den.isObj, dFld, pick]
  · have e : (r.map D.bl).map (fun _ => D.bl true) = (r.map fun _ => true).map .bl := by simp
    rw [e, tri_all, show (r.map fun _ => true).all id = true from by rw [List.all_map]; exact List.all_eq_true.mpr fun _ _ => rfl]
    exact hP
theorem width_at {m : SM} {xs : List D} {w : Nat} {P : D → SM → Prop} (h : xs.length ≤ 6) (hw : w ≤ 6) (hP : P (.int w) m) : Tri (den__width_of [.lst xs, .int w]) m P := by
  unfold den__width_of
  simp [tri_runF, triF_seq, triF_nx, triF_rt, triF_bk, triF_ct, triF_ret, triF_if, triF_asg, triF_for, aft_nx, aft_rt, aft_rf, fin_rt, fin_rf, triF_retO, fin_nx, tri_fC, tri_gVar, tri_f2, tri_f1, tri_fL, tri_aN, tri_aC, tri_fTup, tri_lDis, tri_fNew, tri_fNot, tri_fAnd, tri_fOr, tri_fIf, tri_fCh, tri_tT, tri_t2, tri_tYes, tri_tNo, tri_tAnd, tri_tOr, tri_asB, tri_truB, tri_truI, tri_truL, tri_truT, tri_truN, tri_add, tri_sub, tri_lt, tri_le, tri_gt, tri_ge, tri_int, tri_len, tri_eqI, tri_neI, tri_iSeq, tri_itsL, tri_itsT, tri_iRan, tri_range, tri_iG, tri_enum, tri_comp, tri_tupL, tri_tupT, tri_pure, tri_bind, tri_need, tri_lim, tri_noErr, tri_gIsi, tri_gProp, tri_gInv, tri_gFld, tri_callK, tri_lG, tri_list_tup, tri_isBF, tri_isIN, tri_isBN, vw, allM, Sl.see, dLen1, D.plainOr, isCl, D.tyn, Den.isObj, dFld, pick]
  refine short_at h ?_
  simp [tri_runF, triF_seq, triF_nx, triF_rt, triF_bk, triF_ct, triF_ret, triF_if, triF_asg, triF_for, aft_nx, aft_rt, aft_rf, fin_rt, fin_rf, triF_retO, fin_nx, tri_fC, tri_gVar, tri_f2, tri_f1, tri_fL, tri_aN, tri_aC, tri_fTup, tri_lDis, tri_fNew, tri_fNot, tri_fAnd, tri_fOr, tri_fIf, tri_fCh, tri_tT, tri_t2, tri_tYes, tri_tNo, tri_tAnd, tri_tOr, tri_asB, tri_truB, tri_truI, tri_truL, tri_truT, tri_truN, tri_add, tri_sub, tri_lt, tri_le, tri_gt, tri_ge, tri_int, tri_len, tri_eqI, tri_neI, tri_iSeq, tri_itsL, tri_itsT, tri_iRan, tri_range, tri_iG, tri_enum, tri_comp, tri_tupL, tri_tupT, tri_pure, tri_bind, tri_need, tri_lim, tri_noErr, tri_gIsi, tri_gProp, tri_gInv, tri_gFld, tri_callK, tri_lG, tri_list_tup, tri_isBF, tri_isIN, tri_isBN, vw, allM, Sl.see, dLen1, D.plainOr, isCl, D.tyn, Den.isObj, dFld, pick]
  refine number_at (by omega) (by omega) ?_
  simp [tri_runF, triF_seq, triF_nx, triF_rt, triF_bk, triF_ct, triF_ret, triF_if, triF_asg, triF_for, aft_nx, aft_rt, aft_rf, fin_rt, fin_rf, triF_retO, fin_nx, tri_fC, tri_gVar, tri_f2, tri_f1, tri_fL, tri_aN, tri_aC, tri_fTup, tri_lDis, tri_fNew, tri_fNot, tri_fAnd, tri_fOr, tri_fIf, tri_fCh, tri_tT, tri_t2, tri_tYes, tri_tNo, tri_tAnd, tri_tOr, tri_asB, tri_truB, tri_truI, tri_truL, tri_truT, tri_truN, tri_add, tri_sub, tri_lt, tri_le, tri_gt, tri_ge, tri_int, tri_len, tri_eqI, tri_neI, tri_iSeq, tri_itsL, tri_itsT, tri_iRan, tri_range, tri_iG, tri_enum, tri_comp, tri_tupL, tri_tupT, tri_pure, tri_bind, tri_need, tri_lim, tri_noErr, tri_gIsi, tri_gProp, tri_gInv, tri_gFld, tri_callK, tri_lG, tri_list_tup, tri_isBF, tri_isIN, tri_isBN, vw, allM, Sl.see, dLen1, D.plainOr, isCl, D.tyn, Den.isObj, dFld, pick]
  exact hP
/-- rows of lists, of tuples -/
def rowL (r : List Bool) : D := .lst (r.map .bl)
def rowT (r : List Bool) : D := .tup (r.map .bl)
def cells (rows : List (List Bool)) : D := .tup (rows.map rowT)
def fieldsD (w : Nat) (rows : List (List Bool)) : List (Str × D) := [("_cells", cells rows), ("_width", .int w)]
/-- a table -/
def tabD (w : Nat) (rows : List (List Bool)) : D := .obj "Table" (fieldsD w rows)
/-- rows of one width, at most six, at most six wide -/
structure Rect (w : Nat) (rows : List (List Bool)) : Prop where
  high : rows.length ≤ 6
  wide : w ≤ 6
  row : ∀ r ∈ rows, r.length = w
theorem init_at {m : SM} {w : Nat} {rows : List (List Bool)} {P : List (Str × D) → SM → Prop} (hR : Rect w rows) (hP : P (fieldsD w rows) m) : Tri (deni_Table_init [.lst (rows.map rowL), .int w]) m P := by
  have a := hR.high
  have b := hR.wide
  unfold deni_Table_init
  refine tri_runI rfl ?_
  simp only [triF_seq]
  simp [tri_runF, triF_seq, triF_nx, triF_rt, triF_bk, triF_ct, triF_ret, triF_if, triF_asg, triF_for, aft_nx, aft_rt, aft_rf, fin_rt, fin_rf, triF_retO, fin_nx, tri_fC, tri_gVar, tri_f2, tri_f1, tri_fL, tri_aN, tri_aC, tri_fTup, tri_lDis, tri_fNew, tri_fNot, tri_fAnd, tri_fOr, tri_fIf, tri_fCh, tri_tT, tri_t2, tri_tYes, tri_tNo, tri_tAnd, tri_tOr, tri_asB, tri_truB, tri_truI, tri_truL, tri_truT, tri_truN, tri_add, tri_sub, tri_lt, tri_le, tri_gt, tri_ge, tri_int, tri_len, tri_eqI, tri_neI, tri_iSeq, tri_itsL, tri_itsT, tri_iRan, tri_range, tri_iG, tri_enum, tri_comp, tri_tupL, tri_tupT, tri_pure, tri_bind, tri_need, tri_lim, tri_noErr, tri_gIsi, tri_gProp, tri_gInv, tri_gFld, tri_callK, tri_lG, tri_list_tup, tri_isBF, tri_isIN, tri_isBN, vw, allM, Sl.see, dLen1, D.plainOr, isCl, D.tyn, Den.isObj, dFld, pick]
  refine width_at (by simpa using a) b ?_
  refine triF_loop (fun j ρ m' => m' = m ∧ ∃ s4 s5, ρ = [.ob "Table" [], .va (.lst (rows.map rowL)), .va (.int w), .va (.int w), s4, s5]) _ 0 _ m ⟨rfl, _, _, rfl⟩ (fun j d ρ m' hd hI => ?_) (fun ρ m' hI => ?_)
  · obtain ⟨em, s4, s5, eρ⟩ := hI
    subst eρ em
    have hjr : j < rows.length := by
      by_cases hh : j < rows.length
      · exact hh
      · rw [List.getElem?_eq_none (by rw [enumD_length]; simpa using hh)] at hd; cases hd
    have ed : d = .tup [.int (j : Nat), rowL rows[j]] := by
      rw [enumD_get (d := rowL rows[j]) (by simp [hjr])] at hd
      exact (Option.some.inj hd).symm
    subst ed
    refine ⟨_, rfl, ?_⟩
    rw [triF_if]
    simp [tri_runF, triF_seq, triF_nx, triF_rt, triF_bk, triF_ct, triF_ret, triF_if, triF_asg, triF_for, aft_nx, aft_rt, aft_rf, fin_rt, fin_rf, triF_retO, fin_nx, tri_fC, tri_gVar, tri_f2, tri_f1, tri_fL, tri_aN, tri_aC, tri_fTup, tri_lDis, tri_fNew, tri_fNot, tri_fAnd, tri_fOr, tri_fIf, tri_fCh, tri_tT, tri_t2, tri_tYes, tri_tNo, tri_tAnd, tri_tOr, tri_asB, tri_truB, tri_truI, tri_truL, tri_truT, tri_truN, tri_add, tri_sub, tri_lt, tri_le, tri_gt, tri_ge, tri_int, tri_len, tri_eqI, tri_neI, tri_iSeq, tri_itsL, tri_itsT, tri_iRan, tri_range, tri_iG, tri_enum, tri_comp, tri_tupL, tri_tupT, tri_pure, tri_bind, tri_need, tri_lim, tri_noErr, tri_gIsi, tri_gProp, tri_gInv, tri_gFld, tri_callK, tri_lG, tri_list_tup, tri_isBF, tri_isIN, tri_isBN, vw, allM, Sl.see, dLen1, D.plainOr, isCl, D.tyn, Den.isObj, dFld, pick]
    refine isrow_at (hR.row _ (List.getElem_mem hjr)) b ?_
    simp [tri_runF, triF_seq, triF_nx, triF_rt, triF_bk, triF_ct, triF_ret, triF_if, triF_asg, triF_for, aft_nx, aft_rt, aft_rf, fin_rt, fin_rf, triF_retO, fin_nx, tri_fC, tri_gVar, tri_f2, tri_f1, tri_fL, tri_aN, tri_aC, tri_fTup, tri_lDis, tri_fNew, tri_fNot, tri_fAnd, tri_fOr, tri_fIf, tri_fCh, tri_tT, tri_t2, tri_tYes, tri_tNo, tri_tAnd, tri_tOr, tri_asB, tri_truB, tri_truI, tri_truL, tri_truT, tri_truN, tri_add, tri_sub, tri_lt, tri_le, tri_gt, tri_ge, tri_int, tri_len, tri_eqI, tri_neI, tri_iSeq, tri_itsL, tri_itsT, tri_iRan, tri_range, tri_iG, tri_enum, tri_comp, tri_tupL, tri_tupT, tri_pure, tri_bind, tri_need, tri_lim, tri_noErr, tri_gIsi, tri_gProp, tri_gInv, tri_gFld, tri_callK, tri_lG, tri_list_tup, tri_isBF, tri_isIN, tri_isBN, vw, allM, Sl.see, dLen1, D.plainOr, isCl, D.tyn, Den.isObj, dFld, pick]
  · obtain ⟨em, s4, s5, eρ⟩ := hI
    subst eρ em
    simp only [aft_nx, triF_seq]
    refine triF_fldS rfl (by simp) ?_
    simp [tri_runF, triF_seq, triF_nx, triF_rt, triF_bk, triF_ct, triF_ret, triF_if, triF_asg, triF_for, aft_nx, aft_rt, aft_rf, fin_rt, fin_rf, triF_retO, fin_nx, tri_fC, tri_gVar, tri_f2, tri_f1, tri_fL, tri_aN, tri_aC, tri_fTup, tri_lDis, tri_fNew, tri_fNot, tri_fAnd, tri_fOr, tri_fIf, tri_fCh, tri_tT, tri_t2, tri_tYes, tri_tNo, tri_tAnd, tri_tOr, tri_asB, tri_truB, tri_truI, tri_truL, tri_truT, tri_truN, tri_add, tri_sub, tri_lt, tri_le, tri_gt, tri_ge, tri_int, tri_len, tri_eqI, tri_neI, tri_iSeq, tri_itsL, tri_itsT, tri_iRan, tri_range, tri_iG, tri_enum, tri_comp, tri_tupL, tri_tupT, tri_pure, tri_bind, tri_need, tri_lim, tri_noErr, tri_gIsi, tri_gProp, tri_gInv, tri_gFld, tri_callK, tri_lG, tri_list_tup, tri_isBF, tri_isIN, tri_isBN, vw, allM, Sl.see, dLen1, D.plainOr, isCl, D.tyn, Den.isObj, dFld, pick]
    refine ⟨by omega, tri_compM (fun d => match d with | .lst xs => .tup xs | x => x) _ (fun d hd => ⟨_, rfl, ?_⟩) ?_⟩
    · obtain ⟨r, hr, e⟩ := List.mem_map.mp hd
      subst e
      unfold rowL
      simp [tri_runF, triF_seq, triF_nx, triF_rt, triF_bk, triF_ct, triF_ret, triF_if, triF_asg, triF_for, aft_nx, aft_rt, aft_rf, fin_rt, fin_rf, triF_retO, fin_nx, tri_fC, tri_gVar, tri_f2, tri_f1, tri_fL, tri_aN, tri_aC, tri_fTup, tri_lDis, tri_fNew, tri_fNot, tri_fAnd, tri_fOr, tri_fIf, tri_fCh, tri_tT, tri_t2, tri_tYes, tri_tNo, tri_tAnd, tri_tOr, tri_asB, tri_truB, tri_truI, tri_truL, tri_truT, tri_truN, tri_add, tri_sub, tri_lt, tri_le, tri_gt, tri_ge, tri_int, tri_len, tri_eqI, tri_neI, tri_iSeq, tri_itsL, tri_itsT, tri_iRan, tri_range, tri_iG, tri_enum, tri_comp, tri_tupL, tri_tupT, tri_pure, tri_bind, tri_need, tri_lim, tri_noErr, tri_gIsi, tri_gProp, tri_gInv, tri_gFld, tri_callK, tri_lG, tri_list_tup, tri_isBF, tri_isIN, tri_isBN, vw, allM, Sl.see, dLen1, D.plainOr, isCl, D.tyn, Den.isObj, dFld, pick]
    · refine triF_fldS (fs := _) rfl (by simp [putD]) ?_
      simp [tri_runF, triF_seq, triF_nx, triF_rt, triF_bk, triF_ct, triF_ret, triF_if, triF_asg, triF_for, aft_nx, aft_rt, aft_rf, fin_rt, fin_rf, triF_retO, fin_nx, tri_fC, tri_gVar, tri_f2, tri_f1, tri_fL, tri_aN, tri_aC, tri_fTup, tri_lDis, tri_fNew, tri_fNot, tri_fAnd, tri_fOr, tri_fIf, tri_fCh, tri_tT, tri_t2, tri_tYes, tri_tNo, tri_tAnd, tri_tOr, tri_asB, tri_truB, tri_truI, tri_truL, tri_truT, tri_truN, tri_add, tri_sub, tri_lt, tri_le, tri_gt, tri_ge, tri_int, tri_len, tri_eqI, tri_neI, tri_iSeq, tri_itsL, tri_itsT, tri_iRan, tri_range, tri_iG, tri_enum, tri_comp, tri_tupL, tri_tupT, tri_pure, tri_bind, tri_need, tri_lim, tri_noErr, tri_gIsi, tri_gProp, tri_gInv, tri_gFld, tri_callK, tri_lG, tri_list_tup, tri_isBF, tri_isIN, tri_isBN, vw, allM, Sl.see, dLen1, D.plainOr, isCl, D.tyn, Den.isObj, dFld, pick]
      refine ⟨_, _, ⟨rfl, rfl⟩, ?_⟩
      exact hP
end Hd
set_option Elab.async false
set_option linter.all false
set_option maxRecDepth 100000
set_option maxHeartbeats 4000000
namespace Hd
open PySem PySem.Spec PyProof.Rows L2 Den
def SameT (n : Nat) (x y : D) : Prop := ∀ (m : SM) (P : D → SM → Prop), P (.bl true) m → Tri (den__law_same n [x, y]) m P
theorem tri_eqB {a b : Bool} {m : SM} {P : D → SM → Prop} : Tri (dEq (.bl a) (.bl b)) m P ↔ P (.bl (a == b)) m := by
  unfold dEq dEqB D.py
  have h : (SeqAt.shaped (PyData.bool a) && SeqAt.shaped (PyData.bool b)) = true := by simp [SeqAt.shaped, PyData.canLay0, PyData.depth]
  simp only [h, if_true, PyData.eqv]
  exact tri_pure
theorem tri_neB {a b : Bool} {m : SM} {P : D → SM → Prop} : Tri (dNe (.bl a) (.bl b)) m P ↔ P (.bl (!(a == b))) m := by
  unfold dNe dEqB D.py
  have h : (SeqAt.shaped (PyData.bool a) && SeqAt.shaped (PyData.bool b)) = true := by simp [SeqAt.shaped, PyData.canLay0, PyData.depth]
  simp only [h, if_true, PyData.eqv]
  exact tri_pure
theorem same_bl {n : Nat} (b : Bool) : SameT (n + 1) (.bl b) (.bl b) := fun m P hP => by
  unfold den__law_same
  simp [tri_runF, triF_seq, triF_nx, triF_rt, triF_bk, triF_ct, triF_ret, triF_if, triF_asg, triF_for, aft_nx, aft_rt, aft_rf, fin_rt, fin_rf, triF_retO, fin_nx, tri_fC, tri_gVar, tri_f2, tri_f1, tri_fL, tri_aN, tri_aC, tri_fTup, tri_lDis, tri_fNew, tri_fNot, tri_fAnd, tri_fOr, tri_fIf, tri_fCh, tri_tT, tri_t2, tri_tYes, tri_tNo, tri_tAnd, tri_tOr, tri_asB, tri_truB, tri_truI, tri_truL, tri_truT, tri_truN, tri_add, tri_sub, tri_lt, tri_le, tri_gt, tri_ge, tri_int, tri_len, tri_eqI, tri_neI, tri_iSeq, tri_itsL, tri_itsT, tri_iRan, tri_range, tri_iG, tri_enum, tri_comp, tri_tupL, tri_tupT, tri_pure, tri_bind, tri_need, tri_lim, tri_noErr, tri_gIsi, tri_gProp, tri_gInv, tri_gFld, tri_callK, tri_lG, tri_list_tup, tri_isBF, tri_isIN, tri_isBN, vw, allM, Sl.see, dLen1, D.plainOr, isCl, D.tyn, Den.isObj, dFld, pick]
  simp [tri_eqB]
  exact hP
theorem same_int {n : Nat} (i : Int) : SameT (n + 1) (.int i) (.int i) := fun m P hP => by
  unfold den__law_same
  simp [tri_runF, triF_seq, triF_nx, triF_rt, triF_bk, triF_ct, triF_ret, triF_if, triF_asg, triF_for, aft_nx, aft_rt, aft_rf, fin_rt, fin_rf, triF_retO, fin_nx, tri_fC, tri_gVar, tri_f2, tri_f1, tri_fL, tri_aN, tri_aC, tri_fTup, tri_lDis, tri_fNew, tri_fNot, tri_fAnd, tri_fOr, tri_fIf, tri_fCh, tri_tT, tri_t2, tri_tYes, tri_tNo, tri_tAnd, tri_tOr, tri_asB, tri_truB, tri_truI, tri_truL, tri_truT, tri_truN, tri_add, tri_sub, tri_lt, tri_le, tri_gt, tri_ge, tri_int, tri_len, tri_eqI, tri_neI, tri_iSeq, tri_itsL, tri_itsT, tri_iRan, tri_range, tri_iG, tri_enum, tri_comp, tri_tupL, tri_tupT, tri_pure, tri_bind, tri_need, tri_lim, tri_noErr, tri_gIsi, tri_gProp, tri_gInv, tri_gFld, tri_callK, tri_lG, tri_list_tup, tri_isBF, tri_isIN, tri_isBN, vw, allM, Sl.see, dLen1, D.plainOr, isCl, D.tyn, Den.isObj, dFld, pick]
  exact hP
theorem same_lst {n : Nat} {xs : List D} (hl : xs.length ≤ 1000) (h : ∀ x ∈ xs, SameT n x x) : SameT (n + 1) (.lst xs) (.lst xs) := fun m P hP => by
  unfold den__law_same
  simp [tri_runF, triF_seq, triF_nx, triF_rt, triF_bk, triF_ct, triF_ret, triF_if, triF_asg, triF_for, aft_nx, aft_rt, aft_rf, fin_rt, fin_rf, triF_retO, fin_nx, tri_fC, tri_gVar, tri_f2, tri_f1, tri_fL, tri_aN, tri_aC, tri_fTup, tri_lDis, tri_fNew, tri_fNot, tri_fAnd, tri_fOr, tri_fIf, tri_fCh, tri_tT, tri_t2, tri_tYes, tri_tNo, tri_tAnd, tri_tOr, tri_asB, tri_truB, tri_truI, tri_truL, tri_truT, tri_truN, tri_add, tri_sub, tri_lt, tri_le, tri_gt, tri_ge, tri_int, tri_len, tri_eqI, tri_neI, tri_iSeq, tri_itsL, tri_itsT, tri_iRan, tri_range, tri_iG, tri_enum, tri_comp, tri_tupL, tri_tupT, tri_pure, tri_bind, tri_need, tri_lim, tri_noErr, tri_gIsi, tri_gProp, tri_gInv, tri_gFld, tri_callK, tri_lG, tri_list_tup, tri_isBF, tri_isIN, tri_isBN, vw, allM, Sl.see, dLen1, D.plainOr, isCl, D.tyn, Den.isObj, dFld, pick]
  rw [tri_neB]
  simp [tri_runF, triF_seq, triF_nx, triF_rt, triF_bk, triF_ct, triF_ret, triF_if, triF_asg, triF_for, aft_nx, aft_rt, aft_rf, fin_rt, fin_rf, triF_retO, fin_nx, tri_fC, tri_gVar, tri_f2, tri_f1, tri_fL, tri_aN, tri_aC, tri_fTup, tri_lDis, tri_fNew, tri_fNot, tri_fAnd, tri_fOr, tri_fIf, tri_fCh, tri_tT, tri_t2, tri_tYes, tri_tNo, tri_tAnd, tri_tOr, tri_asB, tri_truB, tri_truI, tri_truL, tri_truT, tri_truN, tri_add, tri_sub, tri_lt, tri_le, tri_gt, tri_ge, tri_int, tri_len, tri_eqI, tri_neI, tri_iSeq, tri_itsL, tri_itsT, tri_iRan, tri_range, tri_iG, tri_enum, tri_comp, tri_tupL, tri_tupT, tri_pure, tri_bind, tri_need, tri_lim, tri_noErr, tri_gIsi, tri_gProp, tri_gInv, tri_gFld, tri_callK, tri_lG, tri_list_tup, tri_isBF, tri_isIN, tri_isBN, vw, allM, Sl.see, dLen1, D.plainOr, isCl, D.tyn, Den.isObj, dFld, pick]
  refine ⟨by omega, by omega, tri_compM (fun _ => .bl true) _ (fun d hd => ?_) ?_⟩
  · obtain ⟨i, hi, e⟩ := List.mem_map.mp hd
    have hi := List.mem_range.mp hi
    subst e
    refine ⟨_, rfl, ?_⟩
    simp only [tri_fL, tri_aC, tri_f2, tri_gVar]
    refine ⟨_, rfl, _, rfl, ?_⟩
    rw [tri_ixL, Den.atI_nat]
    refine ⟨xs[i], List.getElem?_eq_getElem hi, _, rfl, _, rfl, ?_⟩
    rw [tri_ixL, Den.atI_nat]
    refine ⟨xs[i], List.getElem?_eq_getElem hi, tri_aN.mpr ?_⟩
    exact h _ (List.getElem_mem hi) _ _ ⟨rfl, rfl⟩
  · have e : ((List.range xs.length).map fun i : Nat => D.int (i : Int)).map (fun _ => D.bl true) = ((List.range xs.length).map fun _ => true).map .bl := by simp
    rw [e, tri_all, show ((List.range xs.length).map fun _ => true).all id = true from by rw [List.all_map]; exact List.all_eq_true.mpr fun _ _ => rfl]
    exact hP
/-- rows as lists -/
theorem same_row {n : Nat} {r : List Bool} (h : r.length ≤ 1000) : SameT (n + 2) (rowL r) (rowL r) := same_lst (by simpa using h) fun x hx => by
  obtain ⟨b, _, e⟩ := List.mem_map.mp hx
  rw [← e]; exact same_bl b
theorem same_rows {n w : Nat} {rows : List (List Bool)} (hR : Rect w rows) : SameT (n + 3) (.lst (rows.map rowL)) (.lst (rows.map rowL)) := same_lst (by have := hR.high; simp; omega) fun x hx => by
  obtain ⟨r, hr, e⟩ := List.mem_map.mp hx
  rw [← e]
  exact same_row (by rw [hR.row r hr]; have := hR.wide; omega)
theorem make_at {m : SM} {w : Nat} {rows : List (List Bool)} {P : D → SM → Prop} (hR : Rect w rows) (hP : P (tabD w rows) m) : Tri (noErr (do let fs ← deni_Table_init [.lst (rows.map rowL), .int w]; pure (.obj "Table" fs))) m P := by
  simp only [tri_noErr, tri_bind, tri_pure]
  exact init_at hR hP
theorem height_at {m : SM} {w : Nat} {rows : List (List Bool)} {P : D → SM → Prop} (hP : P (.int rows.length) m) : Tri (den_Table_height [tabD w rows]) m P := by
  unfold den_Table_height tabD fieldsD cells
  simp [tri_runF, triF_seq, triF_nx, triF_rt, triF_bk, triF_ct, triF_ret, triF_if, triF_asg, triF_for, aft_nx, aft_rt, aft_rf, fin_rt, fin_rf, triF_retO, fin_nx, tri_fC, tri_gVar, tri_f2, tri_f1, tri_fL, tri_aN, tri_aC, tri_fTup, tri_lDis, tri_fNew, tri_fNot, tri_fAnd, tri_fOr, tri_fIf, tri_fCh, tri_tT, tri_t2, tri_tYes, tri_tNo, tri_tAnd, tri_tOr, tri_asB, tri_truB, tri_truI, tri_truL, tri_truT, tri_truN, tri_add, tri_sub, tri_lt, tri_le, tri_gt, tri_ge, tri_int, tri_len, tri_eqI, tri_neI, tri_iSeq, tri_itsL, tri_itsT, tri_iRan, tri_range, tri_iG, tri_enum, tri_comp, tri_tupL, tri_tupT, tri_pure, tri_bind, tri_need, tri_lim, tri_noErr, tri_gIsi, tri_gProp, tri_gInv, tri_gFld, tri_callK, tri_lG, tri_list_tup, tri_isBF, tri_isIN, tri_isBN, vw, allM, Sl.see, dLen1, D.plainOr, isCl, D.tyn, Den.isObj, dFld, pick]
  rw [tri_ofO]
  refine ⟨_, rfl, ?_⟩
  simpa using hP
theorem width_of_at {m : SM} {w : Nat} {rows : List (List Bool)} {P : D → SM → Prop} (hP : P (.int w) m) : Tri (den_Table_width [tabD w rows]) m P := by
  unfold den_Table_width tabD fieldsD cells
  simp [tri_runF, triF_seq, triF_nx, triF_rt, triF_bk, triF_ct, triF_ret, triF_if, triF_asg, triF_for, aft_nx, aft_rt, aft_rf, fin_rt, fin_rf, triF_retO, fin_nx, tri_fC, tri_gVar, tri_f2, tri_f1, tri_fL, tri_aN, tri_aC, tri_fTup, tri_lDis, tri_fNew, tri_fNot, tri_fAnd, tri_fOr, tri_fIf, tri_fCh, tri_tT, tri_t2, tri_tYes, tri_tNo, tri_tAnd, tri_tOr, tri_asB, tri_truB, tri_truI, tri_truL, tri_truT, tri_truN, tri_add, tri_sub, tri_lt, tri_le, tri_gt, tri_ge, tri_int, tri_len, tri_eqI, tri_neI, tri_iSeq, tri_itsL, tri_itsT, tri_iRan, tri_range, tri_iG, tri_enum, tri_comp, tri_tupL, tri_tupT, tri_pure, tri_bind, tri_need, tri_lim, tri_noErr, tri_gIsi, tri_gProp, tri_gInv, tri_gFld, tri_callK, tri_lG, tri_list_tup, tri_isBF, tri_isIN, tri_isBN, vw, allM, Sl.see, dLen1, D.plainOr, isCl, D.tyn, Den.isObj, dFld, pick]
  rw [tri_ofO]
  exact ⟨_, rfl, hP⟩
theorem rows_at {m : SM} {w : Nat} {rows : List (List Bool)} {P : D → SM → Prop} (hR : Rect w rows) (hP : P (.lst (rows.map rowL)) m) : Tri (den_Table_rows [tabD w rows]) m P := by
  have a := hR.high
  unfold den_Table_rows tabD fieldsD cells
  simp [tri_runF, triF_seq, triF_nx, triF_rt, triF_bk, triF_ct, triF_ret, triF_if, triF_asg, triF_for, aft_nx, aft_rt, aft_rf, fin_rt, fin_rf, triF_retO, fin_nx, tri_fC, tri_gVar, tri_f2, tri_f1, tri_fL, tri_aN, tri_aC, tri_fTup, tri_lDis, tri_fNew, tri_fNot, tri_fAnd, tri_fOr, tri_fIf, tri_fCh, tri_tT, tri_t2, tri_tYes, tri_tNo, tri_tAnd, tri_tOr, tri_asB, tri_truB, tri_truI, tri_truL, tri_truT, tri_truN, tri_add, tri_sub, tri_lt, tri_le, tri_gt, tri_ge, tri_int, tri_len, tri_eqI, tri_neI, tri_iSeq, tri_itsL, tri_itsT, tri_iRan, tri_range, tri_iG, tri_enum, tri_comp, tri_tupL, tri_tupT, tri_pure, tri_bind, tri_need, tri_lim, tri_noErr, tri_gIsi, tri_gProp, tri_gInv, tri_gFld, tri_callK, tri_lG, tri_list_tup, tri_isBF, tri_isIN, tri_isBN, vw, allM, Sl.see, dLen1, D.plainOr, isCl, D.tyn, Den.isObj, dFld, pick]
  rw [tri_ofO]
  refine ⟨_, rfl, ?_⟩
  rw [tri_itsT]
  refine ⟨by simp; omega, tri_compM (fun d => match d with | .tup xs => .lst xs | x => x) _ (fun d hd => ⟨_, rfl, ?_⟩) ?_⟩
  · obtain ⟨r, hr, e⟩ := List.mem_map.mp hd
    subst e
    unfold rowT
    simp [tri_runF, triF_seq, triF_nx, triF_rt, triF_bk, triF_ct, triF_ret, triF_if, triF_asg, triF_for, aft_nx, aft_rt, aft_rf, fin_rt, fin_rf, triF_retO, fin_nx, tri_fC, tri_gVar, tri_f2, tri_f1, tri_fL, tri_aN, tri_aC, tri_fTup, tri_lDis, tri_fNew, tri_fNot, tri_fAnd, tri_fOr, tri_fIf, tri_fCh, tri_tT, tri_t2, tri_tYes, tri_tNo, tri_tAnd, tri_tOr, tri_asB, tri_truB, tri_truI, tri_truL, tri_truT, tri_truN, tri_add, tri_sub, tri_lt, tri_le, tri_gt, tri_ge, tri_int, tri_len, tri_eqI, tri_neI, tri_iSeq, tri_itsL, tri_itsT, tri_iRan, tri_range, tri_iG, tri_enum, tri_comp, tri_tupL, tri_tupT, tri_pure, tri_bind, tri_need, tri_lim, tri_noErr, tri_gIsi, tri_gProp, tri_gInv, tri_gFld, tri_callK, tri_lG, tri_list_tup, tri_isBF, tri_isIN, tri_isBN, vw, allM, Sl.see, dLen1, D.plainOr, isCl, D.tyn, Den.isObj, dFld, pick]
  · have e : (rows.map rowT).map (fun d => match d with | .tup xs => D.lst xs | x => x) = rows.map rowL := by rw [List.map_map]; rfl
    rw [e]; exact hP
theorem columns_at {m : SM} {w : Nat} {rows : List (List Bool)} {P : D → SM → Prop} (hR : Rect w rows) (hP : P (.lst ((trn w rows).map rowL)) m) : Tri (den_Table_columns [tabD w rows]) m P := by
  have a := hR.high
  have b := hR.wide
  unfold den_Table_columns tabD fieldsD cells
  simp [tri_runF, triF_seq, triF_nx, triF_rt, triF_bk, triF_ct, triF_ret, triF_if, triF_asg, triF_for, aft_nx, aft_rt, aft_rf, fin_rt, fin_rf, triF_retO, fin_nx, tri_fC, tri_gVar, tri_f2, tri_f1, tri_fL, tri_aN, tri_aC, tri_fTup, tri_lDis, tri_fNew, tri_fNot, tri_fAnd, tri_fOr, tri_fIf, tri_fCh, tri_tT, tri_t2, tri_tYes, tri_tNo, tri_tAnd, tri_tOr, tri_asB, tri_truB, tri_truI, tri_truL, tri_truT, tri_truN, tri_add, tri_sub, tri_lt, tri_le, tri_gt, tri_ge, tri_int, tri_len, tri_eqI, tri_neI, tri_iSeq, tri_itsL, tri_itsT, tri_iRan, tri_range, tri_iG, tri_enum, tri_comp, tri_tupL, tri_tupT, tri_pure, tri_bind, tri_need, tri_lim, tri_noErr, tri_gIsi, tri_gProp, tri_gInv, tri_gFld, tri_callK, tri_lG, tri_list_tup, tri_isBF, tri_isIN, tri_isBN, vw, allM, Sl.see, dLen1, D.plainOr, isCl, D.tyn, Den.isObj, dFld, pick]
  rw [tri_ofO]
  refine ⟨_, rfl, ?_⟩
  rw [tri_range]
  refine ⟨⟨by omega, by omega⟩, by simp; omega, tri_compM (fun d => match d with | .int k => rowL (rows.map fun r => r.getD k.toNat false) | x => x) _ (fun d hd => ⟨_, rfl, ?_⟩) ?_⟩
  · obtain ⟨i, hi, e⟩ := List.mem_map.mp hd
    have hi := List.mem_range.mp hi
    subst e
    simp [tri_runF, triF_seq, triF_nx, triF_rt, triF_bk, triF_ct, triF_ret, triF_if, triF_asg, triF_for, aft_nx, aft_rt, aft_rf, fin_rt, fin_rf, triF_retO, fin_nx, tri_fC, tri_gVar, tri_f2, tri_f1, tri_fL, tri_aN, tri_aC, tri_fTup, tri_lDis, tri_fNew, tri_fNot, tri_fAnd, tri_fOr, tri_fIf, tri_fCh, tri_tT, tri_t2, tri_tYes, tri_tNo, tri_tAnd, tri_tOr, tri_asB, tri_truB, tri_truI, tri_truL, tri_truT, tri_truN, tri_add, tri_sub, tri_lt, tri_le, tri_gt, tri_ge, tri_int, tri_len, tri_eqI, tri_neI, tri_iSeq, tri_itsL, tri_itsT, tri_iRan, tri_range, tri_iG, tri_enum, tri_comp, tri_tupL, tri_tupT, tri_pure, tri_bind, tri_need, tri_lim, tri_noErr, tri_gIsi, tri_gProp, tri_gInv, tri_gFld, tri_callK, tri_lG, tri_list_tup, tri_isBF, tri_isIN, tri_isBN, vw, allM, Sl.see, dLen1, D.plainOr, isCl, D.tyn, Den.isObj, dFld, pick]
    rw [tri_ofO]
    refine ⟨_, rfl, ?_⟩
    rw [tri_itsT]
    refine ⟨by simp; omega, tri_compM (fun d => match d with | .tup xs => (match xs[i]? with | some z => z | none => .non) | _ => .non) _ (fun d hd => ?_) ?_⟩
    · obtain ⟨r, hr, e⟩ := List.mem_map.mp hd
      subst e
      refine ⟨_, rfl, ?_⟩
      unfold rowT
      simp only [tri_f2, tri_gVar]
      refine ⟨_, rfl, _, rfl, ?_⟩
      rw [tri_ixT, Den.atI_nat]
      have hir : i < r.length := by rw [hR.row r hr]; omega
      exact ⟨.bl r[i], by simp [hir], rfl, by simp [hir]⟩
    · refine ⟨rfl, ?_⟩
      unfold rowL
      rw [List.map_map, List.map_map]
      congr 1
      refine List.map_congr_left fun r hr => ?_
      have hir : i < r.length := by rw [hR.row r hr]; omega
      simp [rowT, hir]
  · have e : (((List.range (w : Int).toNat).map fun i : Nat => D.int (i : Int))).map (fun d => match d with | .int k => rowL (rows.map fun r => r.getD k.toNat false) | x => x) = (trn w rows).map rowL := by
      rw [List.map_map, trn, List.map_map, Int.toNat_natCast]
      refine List.map_congr_left fun k hk => ?_
      simp
    rw [e]; exact hP
end Hd
set_option Elab.async false
set_option linter.all false
set_option maxRecDepth 100000
set_option maxHeartbeats 4000000
namespace Hd
open PySem PySem.Spec PyProof.Rows L2 Den
theorem trn_len (w : Nat) (rows : List (List Bool)) : (trn w rows).length = w := by simp [trn]
theorem shows_at {m : SM} {w : Nat} {rows : List (List Bool)} {P : D → SM → Prop} (hR : Rect w rows) (hP : P (.bl true) m) : Tri (den__law_shows [tabD w rows, gridD rows.length w rows]) m P := by
  have a := hR.high
  have b := hR.wide
  unfold den__law_shows
  simp [tri_runF, triF_seq, triF_nx, triF_rt, triF_bk, triF_ct, triF_ret, triF_if, triF_asg, triF_for, aft_nx, aft_rt, aft_rf, fin_rt, fin_rf, triF_retO, fin_nx, tri_fC, tri_gVar, tri_f2, tri_f1, tri_fL, tri_aN, tri_aC, tri_fTup, tri_lDis, tri_fNew, tri_fNot, tri_fAnd, tri_fOr, tri_fIf, tri_fCh, tri_tT, tri_t2, tri_tYes, tri_tNo, tri_tAnd, tri_tOr, tri_asB, tri_truB, tri_truI, tri_truL, tri_truT, tri_truN, tri_add, tri_sub, tri_lt, tri_le, tri_gt, tri_ge, tri_int, tri_len, tri_eqI, tri_neI, tri_iSeq, tri_itsL, tri_itsT, tri_iRan, tri_range, tri_iG, tri_enum, tri_comp, tri_tupL, tri_tupT, tri_pure, tri_bind, tri_need, tri_lim, tri_noErr, tri_gIsi, tri_gProp, tri_gInv, tri_gFld, tri_callK, tri_lG, tri_list_tup, tri_isBF, tri_isIN, tri_isBN, vw, allM, Sl.see, dLen1, D.plainOr, isCl, D.tyn, Den.isObj, dFld, pick]
  have hg : IsGrid rows.length w (gridD rows.length w rows) := IsGrid.mk ⟨rows, rfl, hR.row, rfl⟩
  have two : SameT 6 (.lst [.int rows.length, .int w]) (.lst [.int rows.length, .int w]) := same_lst (n := 5) (by simp) fun x hx => by
    simp at hx
    rcases hx with e | e <;> (rw [e]; exact same_int _)
  refine ⟨rfl, ?_⟩
  rw [if_pos]
  rotate_left
  · rfl
  refine ⟨rfl, height_at ⟨rfl, width_of_at (gridD_h hg (gridD_w hg (two _ _ ?_)))⟩⟩
  rw [tri_truB, if_pos rfl]
  refine ⟨rfl, rows_at hR ?_⟩
  have d3 : ∀ Q : D → SM → Prop, Q (cells rows) m → Tri (dIx (gridD rows.length w rows) (.int 3)) m Q := fun Q q => by
    unfold gridD
    rw [tri_ixT]
    exact ⟨_, rfl, q⟩
  refine d3 _ ?_
  unfold cells
  rw [tri_itsT]
  refine ⟨by simp; omega, tri_compM (fun d => match d with | .tup xs => .lst xs | x => x) _ (fun d hd => ⟨_, rfl, ?_⟩) ?_⟩
  · obtain ⟨r, hr, e⟩ := List.mem_map.mp hd
    subst e
    have hl := hR.row r hr
    unfold rowT
    simp [tri_runF, triF_seq, triF_nx, triF_rt, triF_bk, triF_ct, triF_ret, triF_if, triF_asg, triF_for, aft_nx, aft_rt, aft_rf, fin_rt, fin_rf, triF_retO, fin_nx, tri_fC, tri_gVar, tri_f2, tri_f1, tri_fL, tri_aN, tri_aC, tri_fTup, tri_lDis, tri_fNew, tri_fNot, tri_fAnd, tri_fOr, tri_fIf, tri_fCh, tri_tT, tri_t2, tri_tYes, tri_tNo, tri_tAnd, tri_tOr, tri_asB, tri_truB, tri_truI, tri_truL, tri_truT, tri_truN, tri_add, tri_sub, tri_lt, tri_le, tri_gt, tri_ge, tri_int, tri_len, tri_eqI, tri_neI, tri_iSeq, tri_itsL, tri_itsT, tri_iRan, tri_range, tri_iG, tri_enum, tri_comp, tri_tupL, tri_tupT, tri_pure, tri_bind, tri_need, tri_lim, tri_noErr, tri_gIsi, tri_gProp, tri_gInv, tri_gFld, tri_callK, tri_lG, tri_list_tup, tri_isBF, tri_isIN, tri_isBN, vw, allM, Sl.see, dLen1, D.plainOr, isCl, D.tyn, Den.isObj, dFld, pick]
    refine ⟨by omega, tri_compM (fun c => c) _ (fun d hd => ⟨_, rfl, ?_⟩) ?_⟩
    · rw [tri_gVar]; exact ⟨_, rfl, rfl, rfl⟩
    · simp
  · have e : (rows.map rowT).map (fun d => match d with | .tup xs => D.lst xs | x => x) = rows.map rowL := by rw [List.map_map]; rfl
    rw [e]
    exact same_rows (n := 3) hR _ _ hP
theorem py_row (r : List Bool) : D.py (rowT r) = some (.tuple (r.map .bool)) := by
  have : D.pys (r.map D.bl) = some (r.map PyData.bool) := by
    induction r with
    | nil => simp [D.pys]
    | cons b r ih => simp [D.pys, D.py, ih]
  unfold rowT
  rw [D.py, this]; rfl
theorem py_cells (rows : List (List Bool)) : D.py (cells rows) = some (.tuple (rows.map fun r => .tuple (r.map .bool))) := by
  have : D.pys (rows.map rowT) = some (rows.map fun r => PyData.tuple (r.map .bool)) := by
    induction rows with
    | nil => simp [D.pys]
    | cons r rows ih => simp [D.pys, py_row, ih]
  unfold cells
  rw [D.py, this]; rfl
theorem lay_row : ∀ r : List Bool, PyData.canLayAll0 (r.map PyData.bool) = true ∧ PyData.depthAll (r.map PyData.bool) ≤ 1
  | [] => by simp [PyData.canLayAll0, PyData.depthAll]
  | b :: r => by
    have ⟨h1, h2⟩ := lay_row r
    have hb : (PyData.bool b).depth ≤ 1 := by simp [PyData.depth]
    simp only [List.map_cons, PyData.canLayAll0, PyData.depthAll, PyData.canLay0, h1, Bool.and_self, true_and]
    omega
theorem lay_cells : ∀ rows : List (List Bool), PyData.canLayAll0 (rows.map fun r => PyData.tuple (r.map .bool)) = true ∧ PyData.depthAll (rows.map fun r => PyData.tuple (r.map .bool)) ≤ 2
  | [] => by simp [PyData.canLayAll0, PyData.depthAll]
  | r :: rows => by
    have ⟨h1, h2⟩ := lay_cells rows
    have ⟨h3, h4⟩ := lay_row r
    have hb : (PyData.tuple (r.map .bool)).depth ≤ 2 := by simp only [PyData.depth]; omega
    simp only [List.map_cons, PyData.canLayAll0, PyData.depthAll, PyData.canLay0, h1, h3, Bool.and_self, true_and]
    omega
end Hd
set_option Elab.async false
set_option linter.all false
set_option maxRecDepth 100000
set_option maxHeartbeats 4000000
namespace Den
open PySem PySem.Spec PyProof.Rows L2
theorem triF_run {x : M Fl} {m : SM} {g : Fl} (h : TriF x m fun f _ => f = g) : ∃ m', x m = .ok g m' := by
  unfold TriF at h
  cases e : x m with
  | ok f m' =>
    rw [e] at h
    cases f <;> first | exact h.elim | exact ⟨m', by rw [h]⟩
  | err c fs m' => rw [e] at h; exact h.elim
  | bad => rw [e] at h; exact h.elim
end Den
namespace Hd
open PySem PySem.Spec PyProof.Rows L2 Den
theorem isT (w : Nat) (rows : List (List Bool)) : Den.isObj "Table" (tabD w rows) = true := rfl
theorem table_at {m : SM} {w : Nat} {rows : List (List Bool)} {P : D → SM → Prop} (hR : Rect w rows) (hP : P (tabD w rows) m) : Tri (den__law_table [gridD rows.length w rows]) m P := by
  have a := hR.high
  have b := hR.wide
  unfold den__law_table
  unfold gridD
  simp [tri_runF, triF_seq, triF_nx, triF_rt, triF_bk, triF_ct, triF_ret, triF_if, triF_asg, triF_for, aft_nx, aft_rt, aft_rf, fin_rt, fin_rf, triF_retO, fin_nx, tri_fC, tri_gVar, tri_f2, tri_f1, tri_fL, tri_aN, tri_aC, tri_fTup, tri_lDis, tri_fNew, tri_fNot, tri_fAnd, tri_fOr, tri_fIf, tri_fCh, tri_tT, tri_t2, tri_tYes, tri_tNo, tri_tAnd, tri_tOr, tri_asB, tri_truB, tri_truI, tri_truL, tri_truT, tri_truN, tri_add, tri_sub, tri_lt, tri_le, tri_gt, tri_ge, tri_int, tri_len, tri_eqI, tri_neI, tri_iSeq, tri_itsL, tri_itsT, tri_iRan, tri_range, tri_iG, tri_enum, tri_comp, tri_tupL, tri_tupT, tri_pure, tri_bind, tri_need, tri_lim, tri_noErr, tri_gIsi, tri_gProp, tri_gInv, tri_gFld, tri_callK, tri_lG, tri_list_tup, tri_isBF, tri_isIN, tri_isBN, vw, allM, Sl.see, dLen1, D.plainOr, isCl, D.tyn, Den.isObj, dFld, pick]
  simp [tri_ixT, atI, ixN]
  rw [tri_itsT]
  refine ⟨by simp; omega, tri_compM (fun d => match d with | .tup xs => .lst xs | x => x) _ (fun d hd => ⟨_, rfl, ?_⟩) ?_⟩
  · obtain ⟨r, hr, e⟩ := List.mem_map.mp hd
    have hl := hR.row r hr
    subst e
    simp [tri_runF, triF_seq, triF_nx, triF_rt, triF_bk, triF_ct, triF_ret, triF_if, triF_asg, triF_for, aft_nx, aft_rt, aft_rf, fin_rt, fin_rf, triF_retO, fin_nx, tri_fC, tri_gVar, tri_f2, tri_f1, tri_fL, tri_aN, tri_aC, tri_fTup, tri_lDis, tri_fNew, tri_fNot, tri_fAnd, tri_fOr, tri_fIf, tri_fCh, tri_tT, tri_t2, tri_tYes, tri_tNo, tri_tAnd, tri_tOr, tri_asB, tri_truB, tri_truI, tri_truL, tri_truT, tri_truN, tri_add, tri_sub, tri_lt, tri_le, tri_gt, tri_ge, tri_int, tri_len, tri_eqI, tri_neI, tri_iSeq, tri_itsL, tri_itsT, tri_iRan, tri_range, tri_iG, tri_enum, tri_comp, tri_tupL, tri_tupT, tri_pure, tri_bind, tri_need, tri_lim, tri_noErr, tri_gIsi, tri_gProp, tri_gInv, tri_gFld, tri_callK, tri_lG, tri_list_tup, tri_isBF, tri_isIN, tri_isBN, vw, allM, Sl.see, dLen1, D.plainOr, isCl, D.tyn, Den.isObj, dFld, pick]
    refine ⟨by omega, tri_compM (fun c => c) _ (fun d hd => ⟨_, rfl, ?_⟩) ?_⟩
    · rw [tri_gVar]; exact ⟨_, rfl, rfl, rfl⟩
    · simp
  · have e : (rows.map fun r => D.tup (r.map .bl)).map (fun d => match d with | .tup xs => D.lst xs | x => x) = rows.map rowL := by rw [List.map_map]; rfl
    rw [e]
    have := make_at (m := m) (P := P) hR hP
    simpa [tri_noErr, tri_bind, tri_pure] using this
end Hd
set_option Elab.async false
set_option linter.all false
set_option maxRecDepth 100000
set_option maxHeartbeats 4000000
namespace Den
open PySem PySem.Spec PyProof.Rows L2
theorem tri_notInT {m : SM} {P : D → SM → Prop} {k : Int} {ks : List Int} : Tri (dNotIn (.int k) (.tup (ks.map .int))) m P ↔ P (.bl (!decide (k ∈ ks))) m := by
  unfold dNotIn dInB D.its
  simp only [scal_ints, D.scal, Bool.and_self, if_true, any_ints]
  unfold Tri; exact Iff.rfl
def finF (P : List D → SM → Prop) : Fl → SM → Prop
  | .rf ds, m => P ds m
  | _, _ => False
theorem tri_runFF {m : SM} {G : SV → M Fl} {P : List D → SM → Prop} {p n : Nat} {ds : List D} : Tri (runFF p n G ds) m P ↔ ds.length = p ∧ TriF (G (ds.map .va ++ List.replicate (n - p) .no)) m (finF P) := by
  unfold Tri runFF
  by_cases h : ds.length = p
  · rw [if_pos h]
    unfold TriF
    cases e : G (ds.map .va ++ List.replicate (n - p) .no) m with
    | ok f m' => cases f <;> simp [finF, h]
    | err c fs m' => simp
    | bad => simp
  · rw [if_neg h]; simp [h]
theorem ixN_nat {n k : Nat} (h : k < n) : ixN n (k : Int) = some k := by
  unfold ixN
  have h1 : ¬ ((k : Int) < 0) := by omega
  first
  | (rw [if_neg h1]; simp [h])
  | simp [h1, h]
end Den
namespace Hd
open PySem PySem.Spec PyProof.Rows L2 Den
theorem filt_ints (q : Int → Bool) : ∀ ks : List Int, (ks.map D.int).filterMap (fun d => match d with | .int k => if q k = true then some d else none | _ => none) = (ks.filter q).map .int
  | [] => rfl
  | k :: ks => by
    rw [List.map_cons, List.filterMap_cons, List.filter_cons]
    by_cases h : q k = true
    · rw [if_pos h]; simp only [h, if_true]; rw [filt_ints q ks]; rfl
    · rw [if_neg h]; simp only [h]; rw [filt_ints q ks]; rfl
theorem less_run {m : SM} {ks ls : List Int} {P : D → SM → Prop} (hl : ks.length ≤ 1000) (hP : P (.tup ((ks.filter fun k => !decide (k ∈ ls)).map .int)) m) : Tri (den__law_less [.tup (ks.map .int), .tup (ls.map .int)]) m P := by
  unfold den__law_less
  simp [tri_runF, triF_seq, triF_nx, triF_rt, triF_bk, triF_ct, triF_ret, triF_if, triF_asg, triF_new, triF_setS, triF_setSt, triF_for, aft_nx, aft_rt, aft_rf, fin_rt, fin_rf, triF_retO, fin_nx, tri_fC, tri_gVar, tri_f2, tri_f1, tri_fL, tri_aN, tri_aC, tri_fTup, tri_lDis, tri_fNew, tri_fNot, tri_fAnd, tri_fOr, tri_fIf, tri_fCh, tri_tT, tri_t2, tri_tYes, tri_tNo, tri_tAnd, tri_tOr, tri_asB, tri_truB, tri_truI, tri_truL, tri_truT, tri_truN, tri_add, tri_sub, tri_lt, tri_le, tri_gt, tri_ge, tri_mod, tri_div, tri_pow, tri_mul, tri_int, tri_len, tri_min, tri_max, tri_eqI, tri_ixL, tri_ixT, tri_ixC, tri_ixS, tri_iSeq, tri_itsL, tri_itsT, tri_itsC, tri_iRan, tri_range, tri_iG, tri_enum, tri_comp, tri_tupL, tri_tupT, tri_pure, tri_bind, tri_need, tri_lim, vw, allM, Sl.see, isSto, ixN, atI, SM.all, dLen1]
  refine ⟨by omega, tri_compL (fun d => match d with | .int k => if (!decide (k ∈ ls)) = true then some d else none | _ => none) _ (fun d hd => ?_) ?_⟩
  · obtain ⟨k, hk, e⟩ := List.mem_map.mp hd
    subst e
    refine ⟨_, rfl, ?_⟩
    simp only [tri_t2, tri_gVar]
    refine ⟨_, rfl, _, rfl, ?_⟩
    rw [tri_notInT, tri_asB]
    refine ⟨by trivial, ?_, fun hb => ⟨_, rfl, by trivial, ?_⟩⟩
    · by_cases h : k ∈ ls <;> simp [h]
    · simp only [hb, if_true]
  · rw [filt_ints]
    exact hP
/-- the lot of a row -/
def lotN (w : Nat) (r : List Bool) : List Int := ((List.range w).filter fun i => r.getD i false).map fun i : Nat => (i : Int)
def lotR (w : Nat) (r : List Bool) : D := .tup ((lotN w r).map .int)
theorem lotN_mem {w : Nat} {r : List Bool} {k : Int} : k ∈ lotN w r ↔ ∃ i : Nat, i < w ∧ r.getD i false = true ∧ k = i := by
  unfold lotN
  simp only [List.mem_map, List.mem_filter, List.mem_range]
  exact ⟨fun ⟨i, ⟨a, b⟩, c⟩ => ⟨i, a, b, c.symm⟩, fun ⟨i, a, b, c⟩ => ⟨i, ⟨a, b⟩, c.symm⟩⟩
theorem lotN_len {w : Nat} {r : List Bool} : (lotN w r).length ≤ w := by
  unfold lotN
  rw [List.length_map]
  exact Nat.le_trans (List.length_filter_le _ _) (by simp)
theorem lotR_lot {w : Nat} (hw : w ≤ 1000) (r : List Bool) : IsLot w (lotR w r) := ⟨lotN w r, rfl, fun k hk => by
  obtain ⟨i, a, _, c⟩ := lotN_mem.mp hk
  omega, Nat.le_trans lotN_len hw⟩
def lotsBody : SV → M Fl := (gSeq (gNew 1 [] (lDis aN)) (gSeq (gFor (iSeq (f2 dIx (gVar 0) (fC (.int 3)))) (bName 2) (gApp 1 [] (fL dTuple (aC (fNew (compV (eName 3) (iRan 1 (aC (f2 dIx (gVar 0) (fC (.int 2))) aN)) (tT (f2 dIx (gVar 2) (gVar 3))) (gVar 3))) aN)))) (gRetO 1)))
theorem den_lots_eq : den__law_lots = runF 1 4 lotsBody := rfl
theorem denf_lots_eq : denf__law_lots = runFF 1 4 lotsBody := rfl
theorem range_filt (w : Nat) (r : List Bool) : ((List.range w).map fun i : Nat => D.int (i : Int)).filterMap (fun d => match d with | .int k => if r.getD k.toNat false = true then some d else none | _ => none) = (lotN w r).map .int := by
  have e : ((List.range w).map fun i : Nat => D.int (i : Int)) = ((List.range w).map fun i : Nat => (i : Int)).map D.int := by rw [List.map_map]; rfl
  rw [e]
  have := filt_ints (fun k => r.getD k.toNat false) ((List.range w).map fun i : Nat => (i : Int))
  rw [this]
  unfold lotN
  rw [List.filter_map]
  rfl
theorem lotsB_run {m : SM} {w : Nat} {rows : List (List Bool)} {P : Fl → SM → Prop} (hl : rows.length ≤ 1000) (hr : ∀ r ∈ rows, r.length = w) (hw : w ≤ 1000) (hP : P (.rf (rows.map (lotR w))) m) : TriF (lotsBody [.va (gridD rows.length w rows), .no, .no, .no]) m P := by
  unfold lotsBody gridD
  simp [tri_runF, triF_seq, triF_nx, triF_rt, triF_bk, triF_ct, triF_ret, triF_if, triF_asg, triF_new, triF_setS, triF_setSt, triF_for, aft_nx, aft_rt, aft_rf, fin_rt, fin_rf, triF_retO, fin_nx, tri_fC, tri_gVar, tri_f2, tri_f1, tri_fL, tri_aN, tri_aC, tri_fTup, tri_lDis, tri_fNew, tri_fNot, tri_fAnd, tri_fOr, tri_fIf, tri_fCh, tri_tT, tri_t2, tri_tYes, tri_tNo, tri_tAnd, tri_tOr, tri_asB, tri_truB, tri_truI, tri_truL, tri_truT, tri_truN, tri_add, tri_sub, tri_lt, tri_le, tri_gt, tri_ge, tri_mod, tri_div, tri_pow, tri_mul, tri_int, tri_len, tri_min, tri_max, tri_eqI, tri_ixL, tri_ixT, tri_ixC, tri_ixS, tri_iSeq, tri_itsL, tri_itsT, tri_itsC, tri_iRan, tri_range, tri_iG, tri_enum, tri_comp, tri_tupL, tri_tupT, tri_pure, tri_bind, tri_need, tri_lim, vw, allM, Sl.see, isSto, ixN, atI, SM.all, dLen1]
  refine ⟨rfl, ?_⟩
  refine triF_loop (fun j ρ m' => m' = m ∧ ∃ s2 s3, ρ = [.va (.tup [.str "table", .int rows.length, .int w, .tup (rows.map fun r => .tup (r.map .bl))]), .ow ((rows.take j).map (lotR w)), s2, s3]) _ 0 _ m ⟨rfl, _, _, rfl⟩ (fun j d ρ m' hd hI => ?_) (fun ρ m' hI => ?_)
  · obtain ⟨em, s2, s3, eρ⟩ := hI
    subst eρ em
    have hjr : j < rows.length := by
      by_cases hh : j < rows.length
      · exact hh
      · rw [List.getElem?_eq_none (by simpa using hh)] at hd; cases hd
    have ed : d = .tup (rows[j].map .bl) := by
      rw [List.getElem?_map, List.getElem?_eq_getElem hjr] at hd
      exact (Option.some.inj hd).symm
    subst ed
    refine ⟨_, rfl, ?_⟩
    rw [triF_app]
    refine ⟨_, rfl, ?_⟩
    simp [tri_runF, triF_seq, triF_nx, triF_rt, triF_bk, triF_ct, triF_ret, triF_if, triF_asg, triF_new, triF_setS, triF_setSt, triF_for, aft_nx, aft_rt, aft_rf, fin_rt, fin_rf, triF_retO, fin_nx, tri_fC, tri_gVar, tri_f2, tri_f1, tri_fL, tri_aN, tri_aC, tri_fTup, tri_lDis, tri_fNew, tri_fNot, tri_fAnd, tri_fOr, tri_fIf, tri_fCh, tri_tT, tri_t2, tri_tYes, tri_tNo, tri_tAnd, tri_tOr, tri_asB, tri_truB, tri_truI, tri_truL, tri_truT, tri_truN, tri_add, tri_sub, tri_lt, tri_le, tri_gt, tri_ge, tri_mod, tri_div, tri_pow, tri_mul, tri_int, tri_len, tri_min, tri_max, tri_eqI, tri_ixL, tri_ixT, tri_ixC, tri_ixS, tri_iSeq, tri_itsL, tri_itsT, tri_itsC, tri_iRan, tri_range, tri_iG, tri_enum, tri_comp, tri_tupL, tri_tupT, tri_pure, tri_bind, tri_need, tri_lim, vw, allM, Sl.see, isSto, ixN, atI, SM.all, dLen1]
    refine ⟨by omega, by omega, ?_⟩
    have hw' : rows[j].length = w := hr _ (List.getElem_mem hjr)
    refine tri_compL (fun d => match d with | .int k => if (rows[j]).getD k.toNat false = true then some d else none | _ => none) _ (fun d hd => ?_) ?_
    · obtain ⟨i, hi, e⟩ := List.mem_map.mp hd
      have hi := List.mem_range.mp hi
      subst e
      refine ⟨_, rfl, ?_⟩
      have hrr : i < rows[j].length := by omega
      simp only [tri_tT, tri_f2, tri_gVar]
      refine ⟨_, rfl, _, rfl, ?_⟩
      rw [tri_ixT, Den.atI_nat]
      refine ⟨.bl rows[j][i], by simp [hrr], ?_⟩
      rw [tri_truB]
      have eg : (rows[j]).getD ((i : Int).toNat) false = rows[j][i] := by simp [List.getD, hrr]
      refine ⟨by trivial, ?_, fun hb => ⟨_, rfl, by trivial, ?_⟩⟩
      · simp only [eg]
        cases rows[j][i] <;> simp
      · simp only [eg, hb, if_true]
    · rw [range_filt]
      refine ⟨by omega, by trivial, ?_⟩
      rw [List.take_succ, List.getElem?_map, List.getElem?_eq_getElem hjr]
      simp [lotR]
  · obtain ⟨em, s2, s3, eρ⟩ := hI
    subst eρ em
    simp [tri_runF, triF_seq, triF_nx, triF_rt, triF_bk, triF_ct, triF_ret, triF_if, triF_asg, triF_new, triF_setS, triF_setSt, triF_for, aft_nx, aft_rt, aft_rf, fin_rt, fin_rf, triF_retO, fin_nx, tri_fC, tri_gVar, tri_f2, tri_f1, tri_fL, tri_aN, tri_aC, tri_fTup, tri_lDis, tri_fNew, tri_fNot, tri_fAnd, tri_fOr, tri_fIf, tri_fCh, tri_tT, tri_t2, tri_tYes, tri_tNo, tri_tAnd, tri_tOr, tri_asB, tri_truB, tri_truI, tri_truL, tri_truT, tri_truN, tri_add, tri_sub, tri_lt, tri_le, tri_gt, tri_ge, tri_mod, tri_div, tri_pow, tri_mul, tri_int, tri_len, tri_min, tri_max, tri_eqI, tri_ixL, tri_ixT, tri_ixC, tri_ixS, tri_iSeq, tri_itsL, tri_itsT, tri_itsC, tri_iRan, tri_range, tri_iG, tri_enum, tri_comp, tri_tupL, tri_tupT, tri_pure, tri_bind, tri_need, tri_lim, vw, allM, Sl.see, isSto, ixN, atI, SM.all, dLen1]
    simpa using hP
theorem lots_run {m : SM} {w : Nat} {rows : List (List Bool)} {P : D → SM → Prop} (hl : rows.length ≤ 1000) (hr : ∀ r ∈ rows, r.length = w) (hw : w ≤ 1000) (hP : P (.lst (rows.map (lotR w))) m) : Tri (den__law_lots [gridD rows.length w rows]) m P := by
  rw [den_lots_eq, tri_runF]
  exact ⟨rfl, lotsB_run hl hr hw hP⟩
theorem lotsF_run {m : SM} {w : Nat} {rows : List (List Bool)} {P : List D → SM → Prop} (hl : rows.length ≤ 1000) (hr : ∀ r ∈ rows, r.length = w) (hw : w ≤ 1000) (hP : P (rows.map (lotR w)) m) : Tri (denf__law_lots [gridD rows.length w rows]) m P := by
  rw [denf_lots_eq, tri_runFF]
  exact ⟨rfl, lotsB_run hl hr hw hP⟩
theorem IsLot.less {w : Int} {a b : D} (ha : IsLot w a) (hb : IsLot w b) {m : SM} {P : D → SM → Prop} (hP : ∀ d, IsLot w d → P d m) : Tri (den__law_less [a, b]) m P := by
  obtain ⟨ks, e1, h1, l1⟩ := ha
  obtain ⟨ls, e2, h2, l2⟩ := hb
  subst e1 e2
  exact less_run l1 (hP _ ⟨_, rfl, fun k hk => h1 k (List.mem_filter.mp hk).1, Nat.le_trans (List.length_filter_le _ _) l1⟩)
theorem flip_at {m : SM} {h w : Nat} {g : D} {i k : Int} {P : D → SM → Prop} (hg : IsGrid h w g) (h1 : h ≤ 1000) (h2 : w ≤ 1000) (hi : 0 ≤ i ∧ i < h) (hk : 0 ≤ k ∧ k < w) (hP : ∀ d, IsGrid h w d → P d m) : Tri (den__law_flip [g, .int i, .int k]) m P := by
  have hgw := @gridD_w h w g hg
  obtain ⟨rows, a, b, eg⟩ := hg.ex
  subst eg a
  obtain ⟨n, rfl⟩ := Int.eq_ofNat_of_zero_le hi.1
  have hn : n < rows.length := by omega
  unfold den__law_flip
  rw [tri_runF]
  refine ⟨rfl, ?_⟩
  rw [triF_seq, triF_new]
  simp only [tri_lG, tri_aC, tri_gVar, tri_aN]
  refine ⟨_, rfl, lotsF_run h1 b h2 ⟨rfl, ?_⟩⟩
  rw [aft_nx, triF_seq, triF_if]
  have hlot : ∀ d ∈ rows.map (lotR w), IsLot w d := fun d hd => by
    obtain ⟨r, _, e⟩ := List.mem_map.mp hd
    rw [← e]; exact lotR_lot h2 r
  have atn : (rows.map (lotR w))[n]? = some (lotR w rows[n]) := by simp [hn]
  have fin_ : ∀ (d : D), IsLot w d → TriF (gRet (fL den__law_of (aC (gVar 3) (aC (f2 dIx (gVar 0) (fC (.int 2))) aN))) [.va (gridD rows.length w rows), .va (.int (n : Nat)), .va (.int k), .ow ((rows.map (lotR w)).set n d)]) m (fin P) := fun d hd => by
    rw [triF_ret]
    simp only [tri_fL, tri_aC, tri_gVar, tri_aN, tri_f2, tri_fC]
    refine ⟨_, rfl, _, rfl, hgw ?_⟩
    have hall : ∀ e ∈ (rows.map (lotR w)).set n d, IsLot w e := fun e he => by
      rcases List.mem_or_eq_of_mem_set he with he | he
      · exact hlot e he
      · rw [he]; exact hd
    have ll : ((rows.map (lotR w)).set n d).length = rows.length := by simp
    have q := of_at (m := m) (P := P) hall (by rw [ll]; exact h1) h2 (fun e he => hP e (by rw [ll] at he; exact he))
    exact q
  have hset : ∀ {F : EV → M D}, (∀ Q : D → SM → Prop, (∀ d, IsLot w d → Q d m) → Tri (F (vw (List.replicate 4 true) [.va (gridD rows.length w rows), .va (.int (n : Nat)), .va (.int k), .ow (rows.map (lotR w))])) m Q) →
      TriF (gSet 3 (List.replicate 4 true) F (gVar 1) [.va (gridD rows.length w rows), .va (.int (n : Nat)), .va (.int k), .ow (rows.map (lotR w))]) m (aft (gRet (fL den__law_of (aC (gVar 3) (aC (f2 dIx (gVar 0) (fC (.int 2))) aN)))) (fin P)) := fun {F} hF => by
    refine triF_set rfl (hF _ fun d hd => ?_)
    rw [tri_gVar]
    refine ⟨_, rfl, n, n, rfl, ?_, ixN_nat (by simpa using hn), ?_⟩
    · rw [flat_lot hd]; simp
    · rw [aft_nx]
      exact fin_ d hd
  have hk1 : IsLot w (.tup [.int k]) := lot1 hk
  simp only [tri_t2, tri_f2, tri_gVar]
  refine ⟨_, rfl, _, rfl, _, rfl, ?_⟩
  rw [tri_ixL, Den.atI_nat]
  refine ⟨_, atn, ?_⟩
  unfold lotR
  rw [tri_inT, tri_asB]
  have one : Tri (f2 dIx (gVar 3) (gVar 1) (vw (List.replicate 4 true) [.va (gridD rows.length w rows), .va (.int (n : Nat)), .va (.int k), .ow (rows.map (lotR w))])) m fun d m' => m' = m ∧ d = lotR w rows[n] := by
    simp only [tri_f2, tri_gVar]
    refine ⟨_, rfl, _, rfl, ?_⟩
    rw [tri_ixL, Den.atI_nat]
    exact ⟨_, atn, rfl, rfl⟩
  have hln := lotR_lot h2 rows[n]
  split
  · refine hset fun Q hQ => ?_
    rw [tri_fL, tri_aC]
    refine one.mono fun d m' ⟨em, ed⟩ => ?_
    subst em ed
    simp only [tri_aC, tri_fTup, tri_gVar, tri_aN]
    exact ⟨_, rfl, by simp, hln.less hk1 hQ⟩
  · refine hset fun Q hQ => ?_
    simp only [tri_fL, tri_aC, tri_fNew, tri_lDis]
    refine one.mono fun d m' ⟨em, ed⟩ => ?_
    subst em ed
    simp only [tri_aC, tri_fTup, tri_gVar, tri_aN]
    refine ⟨_, rfl, by simp, by simp, ?_⟩
    have hall : ∀ d ∈ [lotR w rows[n], .tup [.int k]], IsLot w d := fun d hd => by
      rcases List.mem_cons.mp hd with e | hd
      · rw [e]; exact hln
      · rw [List.mem_singleton.mp hd]; exact hk1
    exact join_run (fun d hd => (hall d hd).its) (by simp) (hQ _ (join_lot hall))
end Hd
set_option Elab.async false
set_option linter.all false
set_option maxRecDepth 100000
set_option maxHeartbeats 4000000
namespace Hd
open PySem PySem.Spec PyProof.Rows L2 Den
theorem bent_at {m : SM} {h w : Nat} {g : D} {P : D → SM → Prop} (hm : SI m) (hg : IsGrid h w g) (h1 : h ≤ 1000) (h2 : w ≤ 1000) (hP : ∀ m' d, SI m' → IsGrid h w d → P d m') : Tri (den__law_bent_grid [.sto, g]) m P := by
  have hmul : ∀ {ρ : EV} {m : SM} {Q : D → SM → Prop}, ρ[1]? = some (some g) → Q (.int ((h : Int) * w)) m → Tri (f2 dMul (f2 dIx (gVar 1) (fC (.int 1))) (f2 dIx (gVar 1) (fC (.int 2))) ρ) m Q := fun {ρ m Q} h0 q => by
    simp only [tri_f2, tri_gVar, tri_fC]
    refine ⟨g, h0, gridD_h hg ⟨g, h0, gridD_w hg ?_⟩⟩
    rw [tri_mul]
    exact ⟨.inl (by omega), q⟩
  have hb : (h : Int) * w ≤ 1000 * 1000 := Int.mul_le_mul (by omega) (by omega) (by omega) (by omega)
  have h0 : (0 : Int) ≤ (h : Int) * w := Int.mul_nonneg (by omega) (by omega)
  unfold den__law_bent_grid
  rw [tri_runF]
  refine ⟨rfl, ?_⟩
  rw [triF_seq, triF_asg]
  simp only [tri_fL, tri_aC, tri_gVar, tri_aN]
  refine ⟨_, rfl, hmul rfl ?_⟩
  refine take_at hm (by omega) fun m1 z s1 z0 z1 => ?_
  refine ⟨rfl, ?_⟩
  rw [aft_nx, triF_seq, triF_if]
  simp only [tri_t2]
  refine hmul rfl ?_
  simp only [tri_fC, tri_eqI, tri_asB]
  by_cases hz : (h : Int) * w = 0
  · rw [if_pos (by simpa using hz), triF_ret, tri_gVar]
    exact ⟨_, rfl, hP m1 g s1 hg⟩
  · rw [if_neg (by simpa using hz), triF_nx, aft_nx, triF_ret]
    have hw : 0 < w := by
      rcases Nat.eq_zero_or_pos w with e | e
      · subst e; simp at hz
      · exact e
    simp only [tri_fL, tri_aC, tri_gVar, tri_aN, tri_f2, tri_fC]
    refine ⟨_, rfl, _, rfl, _, rfl, gridD_w hg ?_⟩
    rw [tri_div]
    refine ⟨⟨by omega, by omega⟩, _, rfl, ?_⟩
    rw [tri_int]
    refine ⟨_, rfl, gridD_w hg ?_⟩
    rw [tri_mod]
    refine ⟨by omega, ?_⟩
    have hzl : z < (h : Int) * w := by
      rcases z1 with q | q
      · exact q
      · rw [q]; omega
    exact flip_at hg h1 h2 ⟨Int.ediv_nonneg z0 (by omega), Int.ediv_lt_of_lt_mul (by omega) hzl⟩ ⟨Int.emod_nonneg _ (by omega), Int.emod_lt_of_pos _ (by omega)⟩ fun d hd => hP m1 d s1 hd
end Hd
set_option Elab.async false
set_option linter.all false
set_option maxRecDepth 100000
set_option maxHeartbeats 4000000
namespace Den
open PySem PySem.Spec PyProof.Rows L2
theorem tri_exact {α : Type} {x : M α} {m : SM} {a : α} (h : Tri x m fun b m' => b = a ∧ m' = m) : x m = .ok a m := by
  obtain ⟨b, m', h1, h2, h3⟩ := h.run
  rw [h1, h2, h3]
section
variable {B G : SV → M Fl} {ρ ρ1 : SV} {m m1 : SM} {P : Fl → SM → Prop} {i : Nat} {tab : List (Str × Bool)} {c : Str} {fs : List (Str × D)}
theorem triF_try_ex (hB : B ρ m = .ok (.ex c fs ρ1) m1) (hl : tab.lookup c = some true) (hno : noOwns ρ1 = true) (hG : TriF (G (ρ1.set i (.va (.exc c fs)))) m1 fun fl m' => ∃ d, fl = .rt d ∧ d.noX = true ∧ P (.rt d) m') : TriF (gTryAs i tab B G ρ) m P := by
  unfold TriF at hG ⊢
  unfold gTryAs
  rw [bind_run, hB]
  simp only [hl]
  have hn : need (noOwns ρ1) m1 = .ok () m1 := by rw [hno]; rfl
  simp only [bind_run, hn]
  cases e : G (ρ1.set i (.va (.exc c fs))) m1 with
  | err c fs m' => rw [e] at hG; exact hG.elim
  | bad => rw [e] at hG; exact hG.elim
  | ok f m' =>
    rw [e] at hG
    cases f with
    | ex c fs ρ' => exact hG.elim
    | rt d =>
      obtain ⟨d', e1, e2, q⟩ := hG
      cases e1
      have hn2 : need (d.noX) m' = .ok () m' := by rw [e2]; rfl
      simp only [rtOf, bind_run, hn2]
      exact q
    | _ => obtain ⟨d', e1, e2, q⟩ := hG; cases e1
theorem tri_gIsx {F : EV → M D} {ρ : EV} {P : D → SM → Prop} {b : Bool} (hF : Tri (F ρ) m fun d m' => d = .exc c fs ∧ m' = m) (hl : tab.lookup c = some b) (hP : P (.bl b) m) : Tri (gIsx tab F ρ) m P := by
  unfold gIsx
  rw [tri_bind]
  refine hF.mono fun d m' ⟨e1, e2⟩ => ?_
  subst e1 e2
  simp only [hl]
  exact tri_pure.mpr hP
theorem tri_gXa {F : EV → M D} {ρ : EV} {P : D → SM → Prop} {cs : List Str} {f : Str} {x : D} (hF : Tri (F ρ) m fun d m' => d = .exc c fs ∧ m' = m) (hc : cs.contains c = true) (hl : fs.lookup f = some x) (hP : P x m) : Tri (gXa cs f F ρ) m P := by
  unfold gXa
  rw [tri_bind]
  refine hF.mono fun d m' ⟨e1, e2⟩ => ?_
  subst e1 e2
  simp only
  rw [tri_bind, tri_need]
  refine ⟨hc, ?_⟩
  rw [hl]
  exact tri_pure.mpr hP
end
section
variable {m : SM} {P : D → SM → Prop} {ρ : EV} {F G : EV → M D}
theorem tri_isNN : Tri (dIsN .non .non) m P ↔ P (.bl true) m := by unfold Tri; exact Iff.rfl
theorem tri_isTN {xs : List D} : Tri (dIsN (.tup xs) .non) m P ↔ P (.bl false) m := by unfold Tri; exact Iff.rfl
theorem triF_exp {P : Fl → SM → Prop} {ρ : SV} : TriF (gExp F ρ) m P ↔ Tri (F (vw [] ρ)) m fun _ m => P (.nx ρ) m := by unfold gExp; rw [triF_exB]; simp only [triF_nx]
end
end Den
namespace Hd
open PySem PySem.Spec PyProof.Rows L2 Den
theorem runF_ex {p n : Nat} {G : SV → M Fl} {ds : List D} {m m' : SM} {c : Str} {fs : List (Str × D)} {ρ : SV} (h : ds.length = p) (e : G (ds.map .va ++ List.replicate (n - p) .no) m = .ok (.ex c fs ρ) m') : runF p n G ds m = .err c fs m' := by
  unfold runF
  rw [if_pos h, e]
def sidesD (w : Nat) (rows : List (List Bool)) : D := .tup [.int rows.length, .int w]
theorem size_at {m : SM} {w : Nat} {rows : List (List Bool)} {P : D → SM → Prop} (hP : P (.tup [.int rows.length, .int w]) m) : Tri (den_Table_size [tabD w rows]) m P := by
  unfold den_Table_size
  rw [tri_runF]
  refine ⟨rfl, ?_⟩
  rw [triF_ret]
  simp only [tri_fTup, tri_aC, tri_gProp, tri_gVar, tri_aN]
  refine ⟨_, rfl, rfl, height_at ⟨_, rfl, rfl, width_of_at ⟨by simp, hP⟩⟩⟩
theorem same_tup {n : Nat} {xs : List D} (hl : xs.length ≤ 1000) (h : ∀ x ∈ xs, SameT n x x) : SameT (n + 1) (.tup xs) (.tup xs) := fun m P hP => by
  unfold den__law_same
  simp [tri_runF, triF_seq, triF_nx, triF_rt, triF_bk, triF_ct, triF_ret, triF_if, triF_asg, triF_for, aft_nx, aft_rt, aft_rf, fin_rt, fin_rf, triF_retO, fin_nx, tri_fC, tri_gVar, tri_f2, tri_f1, tri_fL, tri_aN, tri_aC, tri_fTup, tri_lDis, tri_fNew, tri_fNot, tri_fAnd, tri_fOr, tri_fIf, tri_fCh, tri_tT, tri_t2, tri_tYes, tri_tNo, tri_tAnd, tri_tOr, tri_asB, tri_truB, tri_truI, tri_truL, tri_truT, tri_truN, tri_add, tri_sub, tri_lt, tri_le, tri_gt, tri_ge, tri_int, tri_len, tri_eqI, tri_neI, tri_iSeq, tri_itsL, tri_itsT, tri_iRan, tri_range, tri_iG, tri_enum, tri_comp, tri_tupL, tri_tupT, tri_pure, tri_bind, tri_need, tri_lim, tri_noErr, tri_gIsi, tri_gProp, tri_gInv, tri_gFld, tri_callK, tri_lG, tri_list_tup, tri_isBF, tri_isIN, tri_isBN, vw, allM, Sl.see, dLen1, D.plainOr, isCl, D.tyn, Den.isObj, dFld, pick]
  rw [tri_neB]
  simp [tri_runF, triF_seq, triF_nx, triF_rt, triF_bk, triF_ct, triF_ret, triF_if, triF_asg, triF_for, aft_nx, aft_rt, aft_rf, fin_rt, fin_rf, triF_retO, fin_nx, tri_fC, tri_gVar, tri_f2, tri_f1, tri_fL, tri_aN, tri_aC, tri_fTup, tri_lDis, tri_fNew, tri_fNot, tri_fAnd, tri_fOr, tri_fIf, tri_fCh, tri_tT, tri_t2, tri_tYes, tri_tNo, tri_tAnd, tri_tOr, tri_asB, tri_truB, tri_truI, tri_truL, tri_truT, tri_truN, tri_add, tri_sub, tri_lt, tri_le, tri_gt, tri_ge, tri_int, tri_len, tri_eqI, tri_neI, tri_iSeq, tri_itsL, tri_itsT, tri_iRan, tri_range, tri_iG, tri_enum, tri_comp, tri_tupL, tri_tupT, tri_pure, tri_bind, tri_need, tri_lim, tri_noErr, tri_gIsi, tri_gProp, tri_gInv, tri_gFld, tri_callK, tri_lG, tri_list_tup, tri_isBF, tri_isIN, tri_isBN, vw, allM, Sl.see, dLen1, D.plainOr, isCl, D.tyn, Den.isObj, dFld, pick]
  refine ⟨by omega, by omega, tri_compM (fun _ => .bl true) _ (fun d hd => ?_) ?_⟩
  · obtain ⟨i, hi, e⟩ := List.mem_map.mp hd
    have hi := List.mem_range.mp hi
    subst e
    refine ⟨_, rfl, ?_⟩
    simp only [tri_fL, tri_aC, tri_f2, tri_gVar]
    refine ⟨_, rfl, _, rfl, ?_⟩
    rw [tri_ixT, Den.atI_nat]
    refine ⟨xs[i], List.getElem?_eq_getElem hi, _, rfl, _, rfl, ?_⟩
    rw [tri_ixT, Den.atI_nat]
    refine ⟨xs[i], List.getElem?_eq_getElem hi, tri_aN.mpr ?_⟩
    exact h _ (List.getElem_mem hi) _ _ ⟨rfl, rfl⟩
  · have e : ((List.range xs.length).map fun i : Nat => D.int (i : Int)).map (fun _ => D.bl true) = ((List.range xs.length).map fun _ => true).map .bl := by simp
    rw [e, tri_all, show ((List.range xs.length).map fun _ => true).all id = true from by rw [List.all_map]; exact List.all_eq_true.mpr fun _ _ => rfl]
    exact hP
end Hd
set_option Elab.async false
set_option linter.all false
set_option maxRecDepth 100000
set_option maxHeartbeats 4000000
namespace Hd
open PySem PySem.Spec PyProof.Rows L2 Den
def prodR (w : Nat) (a b : List (List Bool)) : List (List Bool) := a.map fun r => (List.range w).map fun k => (List.range b.length).any fun j => r.getD j false && (b.getD j []).getD k false
theorem prodR_rect {w n : Nat} {a b : List (List Bool)} (hA : Rect n a) (hw : w ≤ 6) : Rect w (prodR w a b) :=
  ⟨by unfold prodR; rw [List.length_map]; exact hA.high, hw, fun r hr => by
    unfold prodR at hr
    obtain ⟨r', _, e⟩ := List.mem_map.mp hr
    rw [← e]; simp⟩
theorem prodR_len {w : Nat} {a b : List (List Bool)} : (prodR w a b).length = a.length := by unfold prodR; rw [List.length_map]
end Hd
set_option Elab.async false
set_option linter.all false
set_option maxRecDepth 100000
set_option maxHeartbeats 4000000
namespace Den
open PySem PySem.Spec PyProof.Rows L2
theorem tri_zipM {xs ys : List D} {m : SM} {P : List D → SM → Prop} : Tri (dZipM [.tup xs, .lst ys]) m P ↔ P (zipD xs ys) m := by unfold Tri; exact Iff.rfl
theorem zip_bls (r c : List Bool) : zipD (r.map D.bl) (c.map D.bl) = List.zipWith (fun x y => D.tup [.bl x, .bl y]) r c := by
  unfold zipD
  rw [List.zipWith_map]
end Den
namespace Hd
open PySem PySem.Spec PyProof.Rows L2 Den
def mid (r c : List Bool) : Bool := (List.zipWith (fun x y => x && y) r c).any id
theorem mid_eq : ∀ (r : List Bool) (b : List (List Bool)) (k : Nat), r.length = b.length → mid r (b.map fun q => q.getD k false) = (List.range b.length).any fun j => r.getD j false && (b.getD j []).getD k false
  | [], [], k, _ => rfl
  | [], _ :: _, k, h => by cases h
  | _ :: _, [], k, h => by cases h
  | x :: r, q :: b, k, h => by
    have ih := mid_eq r b k (by simpa using h)
    rw [List.length_cons, List.range_succ_eq_map, List.any_cons, List.any_map]
    unfold mid at ih ⊢
    rw [List.map_cons, List.zipWith_cons_cons, List.any_cons, ih]
    rfl
theorem mids_eq {w : Nat} {a b : List (List Bool)} (h : ∀ r ∈ a, r.length = b.length) : (a.map fun r => (trn w b).map fun c => mid r c) = prodR w a b := by
  unfold prodR trn
  refine List.map_congr_left fun r hr => ?_
  rw [List.map_map]
  exact List.map_congr_left fun k _ => mid_eq r b k (h r hr)
theorem middle_at {m : SM} {r c : List Bool} {P : D → SM → Prop} (hl : r.length ≤ 1000) (hP : P (.bl (mid r c)) m) : Tri (den__have_middle [rowT r, rowL c]) m P := by
  unfold den__have_middle
  rw [tri_runF]
  refine ⟨rfl, ?_⟩
  rw [triF_ret]
  simp only [tri_fL, tri_aC, tri_fNew, tri_comp, tri_iG, tri_gVar, tri_aN]
  refine ⟨_, rfl, _, rfl, ?_⟩
  show Tri (dZipM [.tup (r.map .bl), .lst (c.map .bl)]) m _
  rw [tri_zipM, zip_bls]
  refine ⟨by simp; omega, tri_compM (fun d => match d with | .tup [.bl x, .bl y] => .bl (x && y) | _ => .non) _ (fun d hd => ?_) ?_⟩
  · have hd' : ∃ x y, d = .tup [.bl x, .bl y] := by
      obtain ⟨i, hi, e⟩ := List.mem_iff_getElem.mp hd
      rw [List.getElem_zipWith] at e
      exact ⟨_, _, e.symm⟩
    obtain ⟨x, y, e⟩ := hd'
    subst e
    refine ⟨_, rfl, ?_⟩
    rw [tri_fAnd, tri_gVar]
    refine ⟨_, rfl, ?_⟩
    rw [tri_truB]
    cases x
    · rw [if_neg (by simp)]; exact ⟨rfl, rfl⟩
    · rw [if_pos rfl, tri_gVar]; exact ⟨_, rfl, rfl, by simp⟩
  · rw [List.map_zipWith]
    have e : List.zipWith (fun x y => D.bl (x && y)) r c = (List.zipWith (fun x y => x && y) r c).map .bl := by rw [List.map_zipWith]
    show Tri (dAny [.lst (List.zipWith (fun x y => D.bl (x && y)) r c)]) m _
    rw [e, tri_any]
    exact hP
theorem fld_cells {m : SM} {w : Nat} {rows : List (List Bool)} {P : D → SM → Prop} (hP : P (cells rows) m) : Tri (dFld "Table" "_cells" (tabD w rows)) m P := by
  unfold tabD fieldsD
  simp [tri_runF, triF_seq, triF_nx, triF_rt, triF_bk, triF_ct, triF_ret, triF_if, triF_asg, triF_for, aft_nx, aft_rt, aft_rf, fin_rt, fin_rf, triF_retO, fin_nx, tri_fC, tri_gVar, tri_f2, tri_f1, tri_fL, tri_aN, tri_aC, tri_fTup, tri_lDis, tri_fNew, tri_fNot, tri_fAnd, tri_fOr, tri_fIf, tri_fCh, tri_tT, tri_t2, tri_tYes, tri_tNo, tri_tAnd, tri_tOr, tri_asB, tri_truB, tri_truI, tri_truL, tri_truT, tri_truN, tri_add, tri_sub, tri_lt, tri_le, tri_gt, tri_ge, tri_int, tri_len, tri_eqI, tri_neI, tri_iSeq, tri_itsL, tri_itsT, tri_iRan, tri_range, tri_iG, tri_enum, tri_comp, tri_tupL, tri_tupT, tri_pure, tri_bind, tri_need, tri_lim, tri_noErr, tri_gIsi, tri_gProp, tri_gInv, tri_gFld, tri_callK, tri_lG, tri_list_tup, tri_isBF, tri_isIN, tri_isBN, vw, allM, Sl.see, dLen1, D.plainOr, isCl, D.tyn, Den.isObj, dFld, pick]
  rw [tri_ofO]
  exact ⟨_, rfl, hP⟩
theorem behind_ok {m : SM} {w : Nat} {a b : List (List Bool)} {P : D → SM → Prop} (hP : P .non m) : Tri (den_check_behind [tabD b.length a, tabD w b]) m P := by
  unfold den_check_behind
  rw [tri_runF]
  refine ⟨rfl, ?_⟩
  rw [triF_if]
  simp only [tri_t2, tri_gProp, tri_gVar]
  refine ⟨_, rfl, rfl, width_of_at ⟨_, rfl, rfl, height_at ?_⟩⟩
  rw [tri_neI, tri_asB, if_neg (by simp), triF_nx]
  exact hP
theorem mul_at {m : SM} {w : Nat} {a b : List (List Bool)} {P : D → SM → Prop} (hA : Rect b.length a) (hB : Rect w b) (hP : P (tabD w (prodR w a b)) m) : Tri (den_Table_mul [tabD b.length a, tabD w b]) m P := by
  have h1 := hA.high
  have h2 := hB.high
  have h3 := hB.wide
  unfold den_Table_mul
  rw [tri_runF]
  refine ⟨rfl, ?_⟩
  rw [triF_seq, triF_exp]
  simp only [tri_fL, tri_aC, tri_gVar, tri_aN]
  refine ⟨_, rfl, _, rfl, behind_ok ?_⟩
  rw [aft_nx, triF_seq, triF_asg]
  simp only [tri_gProp, tri_gVar]
  refine ⟨_, rfl, rfl, columns_at hB ⟨rfl, ?_⟩⟩
  rw [aft_nx, triF_seq, triF_asg]
  simp only [tri_fNew, tri_comp, tri_iSeq, tri_gFld, tri_gVar]
  refine ⟨_, rfl, fld_cells ?_⟩
  unfold cells
  rw [tri_itsT]
  refine ⟨by simp; omega, tri_compM (fun d => match d with | .tup xs => (match D.bools xs with | some r => .lst ((trn w b).map fun c => .bl (mid r c)) | none => .non) | _ => .non) _ (fun d hd => ?_) ?_⟩
  · obtain ⟨r, hr, e⟩ := List.mem_map.mp hd
    subst e
    refine ⟨_, rfl, ?_⟩
    simp only [tri_fNew, tri_comp, tri_iSeq, tri_gVar]
    refine ⟨_, rfl, ?_⟩
    rw [tri_itsL]
    refine ⟨by rw [List.length_map, trn_len]; omega, tri_compM (fun d => match d with | .lst xs => (match D.bools xs with | some c => .bl (mid r c) | none => .non) | _ => .non) _ (fun d hd => ?_) ?_⟩
    · obtain ⟨c, hc, e⟩ := List.mem_map.mp hd
      subst e
      refine ⟨_, rfl, ?_⟩
      simp only [tri_fL, tri_aC, tri_gVar, tri_aN]
      refine ⟨_, rfl, _, rfl, middle_at (by rw [hA.row r hr]; omega) ⟨rfl, ?_⟩⟩
      simp [rowL, bools_map]
    · refine ⟨rfl, ?_⟩
      simp [rowT, rowL, bools_map, Function.comp_def]
  · refine ⟨rfl, ?_⟩
    have e : (a.map rowT).map (fun d => match d with | .tup xs => (match D.bools xs with | some r => D.lst ((trn w b).map fun c => .bl (mid r c)) | none => .non) | _ => .non) = (prodR w a b).map rowL := by
      rw [← mids_eq hA.row, List.map_map, List.map_map]
      refine List.map_congr_left fun r _ => ?_
      simp [rowT, rowL, bools_map, Function.comp_def]
    rw [e, aft_nx, triF_ret, tri_callK]
    simp only [tri_aC, tri_gVar, tri_aN, tri_gProp]
    refine ⟨_, rfl, _, rfl, rfl, width_of_at ⟨⟨rfl, rfl⟩, ?_⟩⟩
    exact make_at (prodR_rect hA h3) hP
theorem tri_gBinO {c : Str} {g : List D → M D} {F G : EV → M D} {ρ : EV} {m : SM} {P : D → SM → Prop} : Tri (gBinO c g F G ρ) m P ↔ Tri (F ρ) m fun x m => Tri (G ρ) m fun y m => (Den.isObj c x && Den.isObj c y) = true ∧ Tri (g [x, y]) m fun z m => Den.isObj c z = true ∧ P z m := by
  unfold gBinO; simp only [tri_bind, tri_need, tri_pure]
end Hd
set_option Elab.async false
set_option linter.all false
set_option maxRecDepth 100000
set_option maxHeartbeats 4000000
namespace Hd
open PySem PySem.Spec PyProof.Rows L2 Den
section
variable {m : SM} {P : D → SM → Prop} {n w : Nat} {a b : List (List Bool)}
def unlike (n : Nat) (a : List (List Bool)) (w : Nat) (b : List (List Bool)) : List (Str × D) := [("second", sidesD w b), ("first", sidesD n a)]
end
end Hd
set_option Elab.async false
set_option linter.all false
set_option maxRecDepth 100000
set_option maxHeartbeats 4000000
set_option Elab.async false
set_option linter.all false
set_option maxRecDepth 100000
set_option maxHeartbeats 4000000
namespace Hd
open PySem PySem.Spec PyProof.Rows L2 Den
theorem grid_ex {h w : Nat} {d : D} (g : IsGrid h w d) (h1 : h ≤ 6) (h2 : w ≤ 6) : ∃ rows, rows.length = h ∧ Rect w rows ∧ d = gridD h w rows := by
  obtain ⟨rows, a, b, e⟩ := g.ex
  exact ⟨rows, a, ⟨by omega, h2, b⟩, e⟩
section
variable {m : SM} {P : D → SM → Prop}
theorem ix_h {h k : Nat} {c : List (List Bool)} {Q : D → SM → Prop} (q : Q (.int h) m) : Tri (dIx (gridD h k c) (.int 1)) m Q := by
  unfold gridD
  rw [tri_ixT]
  exact ⟨_, rfl, q⟩
theorem ix_w {h k : Nat} {c : List (List Bool)} {Q : D → SM → Prop} (q : Q (.int k) m) : Tri (dIx (gridD h k c) (.int 2)) m Q := by
  unfold gridD
  rw [tri_ixT]
  exact ⟨_, rfl, q⟩
theorem ix_rows {h k : Nat} {c : List (List Bool)} {Q : D → SM → Prop} (q : Q (.tup (c.map fun r => .tup (r.map .bl))) m) : Tri (dIx (gridD h k c) (.int 3)) m Q := by
  unfold gridD
  rw [tri_ixT]
  exact ⟨_, rfl, q⟩
theorem ix_cell {c : List (List Bool)} {i k : Nat} {Q : D → SM → Prop} (hi : i < c.length) (hk : k < c[i].length) (q : Q (.bl ((c.getD i []).getD k false)) m) :
    Tri (dIx (.tup (c.map fun r => .tup (r.map .bl))) (.int (i : Nat))) m fun d m' => Tri (dIx d (.int (k : Nat))) m' Q := by
  rw [tri_ixT, Den.atI_nat]
  refine ⟨.tup (c[i].map .bl), by simp [hi], ?_⟩
  rw [tri_ixT, Den.atI_nat]
  refine ⟨.bl c[i][k], by simp [hk], ?_⟩
  have e : (c.getD i []).getD k false = c[i][k] := by simp [List.getD, hi, hk]
  rw [← e]
  exact q
/-- eq of two grids, of two lists of cells -/
def eqR (a b : List (List Bool)) : Bool := PyData.eqv (.tuple (a.map fun r => .tuple (r.map .bool))) (.tuple (b.map fun r => .tuple (r.map .bool)))
theorem shaped_cells (a : List (List Bool)) : SeqAt.shaped (PyData.tuple (a.map fun r => .tuple (r.map .bool))) = true := by
  have ⟨h1, h2⟩ := lay_cells a
  have l : (PyData.tuple (a.map fun r => .tuple (r.map .bool))).canLay0 = true := by simpa [PyData.canLay0] using h1
  unfold SeqAt.shaped
  have hd : (PyData.tuple (a.map fun r => .tuple (r.map .bool))).depth = PyData.depthAll (a.map fun r => .tuple (r.map .bool)) + 1 := by rw [PyData.depth]
  rw [l, Bool.true_and]
  exact decide_eq_true (by omega)
theorem eq_cells2 {a b : List (List Bool)} (hP : P (.bl (eqR a b)) m) : Tri (dEq (cells a) (cells b)) m P := by
  unfold dEq dEqB
  rw [py_cells, py_cells]
  simp only [shaped_cells, Bool.and_self, if_true]
  rw [tri_pure]
  exact hP
theorem table_word : PyData.strOk "table" = true := by decide +kernel
def pyG (h w : Nat) (a : List (List Bool)) : PyData := .tuple [.str "table", .int h, .int w, .tuple (a.map fun r => .tuple (r.map .bool))]
theorem py_grid (h w : Nat) (a : List (List Bool)) : D.py (gridD h w a) = some (pyG h w a) := by
  have e := py_cells a
  unfold cells rowT at e
  rw [D.py] at e
  obtain ⟨es, e1, e2⟩ := Option.map_eq_some_iff.mp e
  have e3 : es = a.map fun r => .tuple (r.map .bool) := by injection e2
  subst e3
  unfold gridD pyG
  simp [D.py, D.pys, e1]
theorem shaped_grid (h w : Nat) (a : List (List Bool)) : SeqAt.shaped (pyG h w a) = true := by
  have ⟨h1, h2⟩ := lay_cells a
  have hs := table_word
  unfold SeqAt.shaped pyG
  have l : (PyData.tuple [.str "table", .int h, .int w, .tuple (a.map fun r => .tuple (r.map .bool))]).canLay0 = true := by
    simp [PyData.canLay0, PyData.canLayAll0, h1, hs]
  rw [l, Bool.true_and]
  refine decide_eq_true ?_
  simp only [PyData.depth, PyData.depthAll]
  omega
theorem eq_grid {h w : Nat} {a b : List (List Bool)} (hP : P (.bl (eqR a b)) m) : Tri (dEq (gridD h w a) (gridD h w b)) m P := by
  unfold dEq dEqB
  rw [py_grid, py_grid]
  simp only [shaped_grid, Bool.and_self, if_true]
  have e : (pyG h w a).eqv (pyG h w b) = eqR a b := by
    unfold pyG eqR
    simp [PyData.eqv, PyData.eqvAll]
  rw [e, tri_pure]
  exact hP
end
end Hd
set_option Elab.async false
set_option linter.all false
set_option maxRecDepth 100000
set_option maxHeartbeats 4000000
namespace Hd
open PySem PySem.Spec PyProof.Rows L2 Den
def cellsRow (w : Nat) (r : List Bool) (i : Nat) : List (Nat × Nat) := ((List.range w).filter fun k => r.getD k false).map fun k => (i, k)
def cellsR (n w : Nat) (rows : List (List Bool)) : List (Nat × Nat) := (List.range n).flatMap fun i => cellsRow w (rows.getD i []) i
def pairD (p : Nat × Nat) : D := .tup [.int (p.1 : Nat), .int (p.2 : Nat)]
theorem cellsR_mem {n w : Nat} {rows : List (List Bool)} {i k : Nat} : (i, k) ∈ cellsR n w rows ↔ i < n ∧ k < w ∧ (rows.getD i []).getD k false = true := by
  unfold cellsR cellsRow
  simp only [List.mem_flatMap, List.mem_map, List.mem_filter, List.mem_range]
  constructor
  · rintro ⟨a, ha, b, ⟨hb, hc⟩, e⟩
    cases e
    exact ⟨ha, hb, hc⟩
  · rintro ⟨a, b, c⟩
    exact ⟨i, a, k, ⟨b, c⟩, rfl⟩
theorem cellsR_succ (n w : Nat) (rows : List (List Bool)) : cellsR (n + 1) w rows = cellsR n w rows ++ cellsRow w (rows.getD n []) n := by
  unfold cellsR
  rw [List.range_succ, List.flatMap_append]
  simp
theorem cellsRow_succ (w : Nat) (r : List Bool) (i : Nat) : cellsRow (w + 1) r i = cellsRow w r i ++ if r.getD w false = true then [(i, w)] else [] := by
  unfold cellsRow
  rw [List.range_succ, List.filter_append, List.map_append, List.filter_cons, List.filter_nil]
  by_cases h : r.getD w false = true
  · rw [if_pos h, if_pos h]; rfl
  · rw [if_neg h, if_neg h]; rfl
theorem cellsRow_len (w : Nat) (r : List Bool) (i : Nat) : (cellsRow w r i).length ≤ w := by
  unfold cellsRow
  rw [List.length_map]
  exact Nat.le_trans (List.length_filter_le _ _) (by simp)
theorem cellsR_len {n w : Nat} (rows : List (List Bool)) (hw : w ≤ 6) : (cellsR n w rows).length ≤ 6 * n := by
  induction n with
  | zero => simp [cellsR]
  | succ n ih =>
    rw [cellsR_succ, List.length_append]
    have := cellsRow_len w (rows.getD n []) n
    omega
section
variable {m : SM} {P : D → SM → Prop} {w : Nat} {rows : List (List Bool)}
theorem cells_run (hR : Rect w rows) (hP : P (.lst ((cellsR rows.length w rows).map pairD)) m) : Tri (den__law_cells [gridD rows.length w rows]) m P := by
  have h6 := hR.high
  have w6 := hR.wide
  unfold den__law_cells
  rw [tri_runF]
  refine ⟨rfl, ?_⟩
  rw [triF_seq, triF_new, tri_lDis]
  simp only [tri_aN]
  refine ⟨by simp, rfl, ?_⟩
  rw [aft_nx, triF_seq, triF_for]
  simp only [tri_iRan, tri_aC, tri_f2, tri_gVar, tri_fC, tri_aN]
  refine ⟨_, rfl, ix_h ⟨rfl, ?_⟩⟩
  rw [tri_range]
  refine ⟨by omega, ?_⟩
  refine triF_loop (fun j ρ m' => m' = m ∧ ∃ s2 s3, ρ = [.va (gridD rows.length w rows), .ow ((cellsR j w rows).map pairD), s2, s3]) _ 0 _ m ⟨rfl, _, _, rfl⟩ (fun j d ρ m' hd hI => ?_) (fun ρ m' hI => ?_)
  · obtain ⟨em, s2, s3, eρ⟩ := hI
    subst em eρ
    obtain ⟨hj, ed⟩ := ran_at hd
    rw [Int.toNat_natCast] at hj
    subst ed
    refine ⟨_, rfl, ?_⟩
    rw [triF_for]
    simp only [tri_iRan, tri_aC, tri_f2, tri_gVar, tri_fC, tri_aN]
    refine ⟨_, rfl, ix_w ⟨rfl, ?_⟩⟩
    rw [tri_range]
    refine ⟨by omega, ?_⟩
    have hlj := cellsR_len (n := j) rows w6
    have hrow : rows[j].length = w := hR.row _ (List.getElem_mem hj)
    refine triF_loop (fun k ρ m2 => m2 = m' ∧ ∃ s3, ρ = [.va (gridD rows.length w rows), .ow ((cellsR j w rows ++ cellsRow k (rows.getD j []) j).map pairD), .va (.int (j : Nat)), s3]) _ 0 _ m' ⟨rfl, s3, by simp [cellsRow]⟩ (fun k d ρ m2 hd hI => ?_) (fun ρ m2 hI => ?_)
    · obtain ⟨em, s3, eρ⟩ := hI
      subst em eρ
      obtain ⟨hk, ed⟩ := ran_at hd
      rw [Int.toNat_natCast] at hk
      subst ed
      rw [Nat.zero_add]
      refine ⟨_, rfl, ?_⟩
      have hlk := cellsRow_len k (rows.getD j []) j
      rw [triF_if]
      simp only [tri_tT, tri_f2, tri_gVar, tri_fC]
      refine ⟨_, rfl, ix_rows ⟨_, rfl, ?_⟩⟩
      refine (ix_cell hj (by omega) (Q := fun d m3 => d = .bl ((rows.getD j []).getD k false) ∧ m3 = m2) ⟨rfl, rfl⟩).mono fun d m1 hd => ⟨_, rfl, hd.mono fun d2 m4 ⟨e1, e2⟩ => ?_⟩
      subst e1 e2
      rw [tri_truB]
      rw [cellsRow_succ]
      by_cases hb : (rows.getD j []).getD k false = true
      · rw [if_pos hb, if_pos hb, triF_app]
        refine ⟨_, rfl, ?_⟩
        simp only [tri_fTup, tri_aC, tri_gVar, tri_aN]
        refine ⟨_, rfl, _, rfl, by simp, rfl, by rw [List.length_map, List.length_append]; omega, ?_⟩
        exact ⟨by trivial, .va (.int (k : Nat)), by simp [pairD]⟩
      · rw [if_neg hb, if_neg hb, triF_nx]
        exact ⟨by trivial, .va (.int (k : Nat)), by simp⟩
    · obtain ⟨em, s3, eρ⟩ := hI
      subst em eρ
      rw [show 0 + j + 1 = j + 1 by omega]
      refine ⟨rfl, .va (.int (j : Nat)), s3, ?_⟩
      rw [cellsR_succ]
      simp
  · obtain ⟨em, s2, s3, eρ⟩ := hI
    subst em eρ
    rw [aft_nx, triF_ret, tri_gVar]
    refine ⟨_, rfl, ?_⟩
    rw [fin_rt]
    simpa using hP
theorem within_at {ks ls : List Int} (hl : ks.length ≤ 1000) (hP : P (.bl (ks.all fun k => decide (k ∈ ls))) m) : Tri (den__law_within [.tup (ks.map .int), .tup (ls.map .int)]) m P := by
  unfold den__law_within
  rw [tri_runF]
  refine ⟨rfl, ?_⟩
  rw [triF_ret]
  simp only [tri_fL, tri_aC, tri_fNew, tri_comp, tri_iSeq, tri_gVar, tri_aN]
  refine ⟨_, rfl, ?_⟩
  rw [tri_itsT]
  refine ⟨by simp; omega, tri_compM (fun d => match d with | .int k => .bl (decide (k ∈ ls)) | _ => .non) _ (fun d hd => ?_) ?_⟩
  · obtain ⟨k, hk, e⟩ := List.mem_map.mp hd
    subst e
    refine ⟨_, rfl, ?_⟩
    simp only [tri_f2, tri_gVar]
    refine ⟨_, rfl, _, rfl, ?_⟩
    rw [tri_inT]
    exact ⟨rfl, rfl⟩
  · have e : (ks.map D.int).map (fun d => match d with | .int k => D.bl (decide (k ∈ ls)) | _ => D.non) = (ks.map fun k => decide (k ∈ ls)).map .bl := by
      rw [List.map_map, List.map_map]; rfl
    rw [e, tri_all, List.all_map]
    exact hP
theorem back_at {h w : Nat} {g p : D} (hg : IsGrid h w g) (hp : IsGrid w h p) (h1 : h ≤ 1000) (h2 : w ≤ 1000) (hP : ∀ d, IsGrid h w d → P d m) : Tri (den__law_back [g, p]) m P := by
  unfold den__law_back
  rw [tri_runF]
  refine ⟨rfl, ?_⟩
  rw [triF_ret]
  simp only [tri_fL, tri_aC, tri_gVar, tri_aN]
  refine ⟨_, rfl, _, rfl, behind_at hg hp h1 h2 h1 fun d hd => ⟨_, rfl, ?_⟩⟩
  exact behind_at hd hg h1 h1 h2 hP
end
end Hd
set_option Elab.async false
set_option linter.all false
set_option maxRecDepth 100000
set_option maxHeartbeats 4000000
namespace Hd
open PySem PySem.Spec PyProof.Rows L2 Den
section
variable {m : SM} {P : D → SM → Prop} {h w : Nat} {g : D}
theorem all_bls : ∀ {ys : List D}, (∀ y ∈ ys, ∃ b, y = D.bl b) → ∃ bs : List Bool, ys = bs.map .bl
  | [], _ => ⟨[], rfl⟩
  | y :: ys, k => by
    obtain ⟨b, e⟩ := k y (by simp)
    obtain ⟨bs, e2⟩ := all_bls (ys := ys) fun z hz => k z (by simp [hz])
    exact ⟨b :: bs, by rw [e, e2]; rfl⟩
theorem greatest_at (hg : IsGrid h w g) (h1 : h ≤ 1000) (h2 : w ≤ 1000) (hP : ∀ d, IsGrid w h d → P d m) : Tri (den__law_greatest [g]) m P := by
  unfold den__law_greatest
  rw [tri_runF]
  refine ⟨rfl, ?_⟩
  rw [triF_seq, triF_asg]
  simp only [tri_fL, tri_aC, tri_gVar, tri_aN]
  refine ⟨_, rfl, lots_at hg h1 h2 fun L hL hl => ⟨rfl, ?_⟩⟩
  rw [aft_nx, triF_seq, triF_new, tri_lDis]
  simp only [tri_aN]
  refine ⟨by simp, rfl, ?_⟩
  rw [aft_nx, triF_seq, triF_for]
  simp only [tri_iRan, tri_aC, tri_f2, tri_gVar, tri_fC, tri_aN]
  refine ⟨_, rfl, gridD_w hg ⟨rfl, ?_⟩⟩
  rw [tri_range]
  refine ⟨by omega, ?_⟩
  refine triF_loop (fun j ρ m' => m' = m ∧ ∃ O s3 s4 s5 s6, O.length = j ∧ (∀ d ∈ O, IsLot h d) ∧ ρ = [.va g, .va (.lst L), .ow O, s3, s4, s5, s6]) _ 0 _ m ⟨rfl, [], _, _, _, _, rfl, by simp, rfl⟩ (fun j d ρ m' hd hI => ?_) (fun ρ m' hI => ?_)
  · obtain ⟨em, O, s3, s4, s5, s6, hO, hOl, eρ⟩ := hI
    subst em eρ
    obtain ⟨hj, ed⟩ := ran_at hd
    rw [Int.toNat_natCast] at hj
    subst ed
    refine ⟨_, rfl, ?_⟩
    rw [triF_seq, triF_asg]
    simp only [tri_fNew, tri_comp, tri_iSeq, tri_gVar]
    refine ⟨_, rfl, ?_⟩
    rw [tri_itsL]
    refine ⟨by omega, ?_⟩
    refine tri_compE (fun m2 => m2 = m') (fun d y => y = d) false _ rfl (fun d hd m2 em => ?_) fun ys m2 em ll _ l4 => ?_
    · subst em
      refine ⟨_, rfl, ?_⟩
      simp only [tri_t2, tri_gVar]
      refine ⟨_, rfl, _, rfl, ?_⟩
      rw [tri_inL (hl d hd).its, tri_asB]
      split
      · exact ⟨_, rfl, rfl, rfl⟩
      · first | exact ⟨rfl, rfl⟩ | exact ⟨trivial, rfl⟩
    · subst em
      have hys : ∀ y ∈ ys, IsLot w y := fun y hy => by
        obtain ⟨d, hd, e⟩ := l4 y hy
        rw [e]; exact hl d hd
      refine ⟨rfl, ?_⟩
      rw [aft_nx]
      show TriF (gApp 2 _ _ [.va g, .va (.lst L), .ow O, .va (.int (j : Nat)), .va (.lst ys), s5, s6]) m2 _
      rw [triF_app]
      refine ⟨_, rfl, ?_⟩
      simp only [tri_fL, tri_aC, tri_fNew, tri_comp, tri_iRan, tri_f2, tri_gVar, tri_fC, tri_aN]
      refine ⟨_, rfl, gridD_h hg ⟨rfl, ?_⟩⟩
      rw [tri_range]
      refine ⟨by omega, by simp; omega, ?_⟩
      refine tri_compE (fun m3 => m3 = m2) (fun d y => y = d) false _ rfl (fun d hd m3 em => ?_) fun ds m3 em ll3 _ l5 => ?_
      · subst em
        obtain ⟨i, hi, e⟩ := List.mem_map.mp hd
        have hi := List.mem_range.mp hi
        rw [Int.toNat_natCast] at hi
        subst e
        refine ⟨_, rfl, ?_⟩
        simp only [tri_tT, tri_fL, tri_aC, tri_fNew, tri_comp, tri_iSeq, tri_gVar, tri_aN]
        refine ⟨_, rfl, ?_⟩
        rw [tri_itsL]
        refine ⟨by omega, ?_⟩
        refine tri_compE (fun m4 => m4 = m3) (fun d y => ∃ b, y = D.bl b) true _ rfl (fun d hd m4 em => ?_) fun zs m4 em lz _ l6 => ?_
        · subst em
          refine ⟨_, rfl, ?_⟩
          rw [tri_tYes, if_pos rfl]
          simp only [tri_fL, tri_aC, tri_f2, tri_gVar, tri_aN]
          refine ⟨_, rfl, _, rfl, ?_⟩
          rw [tri_ixL, Den.atI_nat]
          have hiL : i < L.length := by omega
          refine ⟨L[i], List.getElem?_eq_getElem hiL, _, rfl, ?_⟩
          have q1 := hl _ (List.getElem_mem hiL)
          obtain ⟨ks, e1, _, k1⟩ := q1
          obtain ⟨ls, e2, _, k2⟩ := hys d hd
          rw [e1, e2]
          exact within_at k1 ⟨⟨_, rfl⟩, rfl⟩
        · subst em
          obtain ⟨bs, e⟩ := all_bls (ys := zs) fun z hz => by
            obtain ⟨_, _, q⟩ := l6 z hz
            exact q
          rw [e, tri_all, tri_truB]
          split
          · exact ⟨_, rfl, rfl, rfl⟩
          · first | exact ⟨rfl, rfl⟩ | exact ⟨trivial, rfl⟩
      · subst em
        rw [tri_tupL]
        have q2 : IsLot h (.tup ds) := lot_of (by simp at ll3; omega) fun y hy => by
          have := l5 y hy
          simpa using this
        refine ⟨by simp [flat_lot q2], by omega, rfl, O ++ [.tup ds], _, _, _, _, by simp [hO], fun x hx => ?_, rfl⟩
        rcases List.mem_append.mp hx with q | q
        · exact hOl x q
        · rw [List.mem_singleton.mp q]; exact q2
  · obtain ⟨em, O, s3, s4, s5, s6, hO, hOl, eρ⟩ := hI
    subst em eρ
    have hOw : O.length = w := by simpa using hO
    rw [aft_nx, triF_ret]
    simp only [tri_fL, tri_aC, tri_f2, tri_gVar, tri_fC, tri_aN]
    refine ⟨_, rfl, _, rfl, gridD_h hg ?_⟩
    refine of_at hOl (by omega) h1 fun d hd => ?_
    rw [hOw] at hd
    exact hP d hd
theorem some_way_at (hm : SI m) (hg : IsGrid h w g) (h1 : h ≤ 6) (h2 : w ≤ 6) (hP : ∀ m' d, SI m' → IsGrid w h d → P d m') : Tri (den__law_some_way [.sto, g]) m P := by
  unfold den__law_some_way
  rw [tri_runF]
  refine ⟨rfl, ?_⟩
  rw [triF_seq, triF_asg]
  simp only [tri_fL, tri_aC, tri_gVar, tri_aN]
  refine ⟨_, rfl, greatest_at hg (by omega) (by omega) fun d0 hd0 => ⟨rfl, ?_⟩⟩
  rw [aft_nx, triF_seq, triF_asg]
  simp only [tri_fL, tri_aC, tri_gVar, tri_aN]
  refine ⟨_, rfl, _, rfl, back_at hg hd0 (by omega) (by omega) fun du hdu => ⟨rfl, ?_⟩⟩
  rw [aft_nx, triF_seq, triF_asg]
  simp only [tri_fL, tri_aC, tri_gVar, tri_aN, tri_f2, tri_fC]
  refine ⟨_, rfl, take_at (k := 3) hm (by omega) fun m1 z s1 z0 z1 => ?_⟩
  rw [tri_add]
  refine ⟨rfl, ?_⟩
  rw [aft_nx, triF_seq, triF_for]
  simp only [tri_iSeq, tri_fL, tri_aC, tri_gVar, tri_aN]
  obtain ⟨r0, l0, R0, e0⟩ := grid_ex hd0 h2 h1
  refine ⟨_, rfl, ?_⟩
  rw [e0, show gridD w h r0 = gridD r0.length h r0 by rw [l0]]
  refine cells_run R0 ?_
  rw [tri_itsL]
  obtain ⟨ru, lu, Ru, eu⟩ := grid_ex hdu h1 h2
  refine triF_loop (fun j ρ m' => SI m' ∧ ∃ d s5 s6, IsGrid w h d ∧ ρ = [.va .sto, .va g, .va d, .va du, .va (.int (1 + z)), s5, s6]) _ 0 _ m1 ⟨s1, _, _, _, by rw [l0, ← e0]; exact hd0, rfl⟩ (fun j d ρ m' hd hI => ?_) (fun ρ m' hI => ?_)
  · obtain ⟨s', dd, s5, s6, hdd, eρ⟩ := hI
    subst eρ
    have hmem := List.mem_of_getElem? hd
    obtain ⟨⟨i, k⟩, hp, ep⟩ := List.mem_map.mp hmem
    obtain ⟨hi, hk, _⟩ := cellsR_mem.mp hp
    subst ep
    refine ⟨_, rfl, ?_⟩
    rw [triF_if]
    simp only [tri_t2, tri_fL, tri_aC, tri_gVar, tri_aN, tri_fC]
    refine ⟨_, rfl, .int (1 + z), rfl, take_at (k := 1 + z) s' (by omega) fun m3 t s3 t0 t1 => ?_⟩
    rw [tri_eqI, tri_asB]
    split
    · rw [triF_seq, triF_asg]
      simp only [tri_fL, tri_aC, tri_gVar, tri_aN, tri_f2, tri_fC]
      refine ⟨_, rfl, _, rfl, ?_⟩
      unfold pairD
      rw [tri_ixT]
      refine ⟨.int (i : Nat), rfl, _, rfl, ?_⟩
      rw [tri_ixT]
      refine ⟨.int (k : Nat), rfl, ?_⟩
      refine flip_at hdd (by omega) (by omega) (by omega) (by omega) fun d2 hd2 => ⟨rfl, ?_⟩
      rw [aft_nx, triF_if]
      simp only [tri_t2, tri_fL, tri_aC, tri_gVar, tri_aN]
      refine ⟨_, rfl, _, rfl, back_at hg hd2 (by omega) (by omega) fun b hb => ⟨_, rfl, ?_⟩⟩
      obtain ⟨rb, lb, Rb, eb⟩ := grid_ex hb h1 h2
      rw [eb, eu]
      refine eq_grid ?_
      rw [tri_asB]
      split
      · rw [triF_asg]
        simp only [tri_gVar]
        exact ⟨_, rfl, rfl, s3, d2, _, _, hd2, by rw [← eu]; rfl⟩
      · rw [triF_nx]
        exact ⟨s3, dd, _, _, hdd, by rw [← eu]; rfl⟩
    · rw [triF_nx]
      exact ⟨s3, dd, _, _, hdd, rfl⟩
  · obtain ⟨s', dd, s5, s6, hdd, eρ⟩ := hI
    subst eρ
    rw [aft_nx, triF_ret, tri_gVar]
    exact ⟨_, rfl, hP m' dd s' hdd⟩
theorem cross_at (hm : SI m) (hg : IsGrid h w g) (h1 : h ≤ 6) (h2 : w ≤ 6) (hP : ∀ m' d, SI m' → IsGrid w h d → P d m') : Tri (den__law_cross [.sto, g]) m P := by
  unfold den__law_cross
  rw [tri_runF]
  refine ⟨rfl, ?_⟩
  rw [triF_seq, triF_asg]
  simp only [tri_fL, tri_aC, tri_gVar, tri_aN, tri_fC]
  refine ⟨_, rfl, take_at hm (by omega) fun m1 z s1 z0 z1 => ⟨rfl, ?_⟩⟩
  rw [aft_nx, triF_seq, triF_if]
  simp only [tri_t2, tri_gVar, tri_fC]
  refine ⟨_, rfl, ?_⟩
  rw [tri_eqI, tri_asB]
  split
  · rw [triF_ret]
    simp only [tri_fL, tri_aC, tri_gVar, tri_aN]
    exact ⟨_, rfl, greatest_at hg (by omega) (by omega) fun d hd => hP m1 d s1 hd⟩
  rw [triF_nx, aft_nx, triF_seq, triF_if]
  simp only [tri_t2, tri_gVar, tri_fC]
  refine ⟨_, rfl, ?_⟩
  rw [tri_eqI, tri_asB]
  split
  · rw [triF_ret]
    simp only [tri_fL, tri_aC, tri_gVar, tri_aN]
    exact ⟨_, rfl, _, rfl, greatest_at hg (by omega) (by omega) fun d hd => bent_at s1 hd (by omega) (by omega) fun m2 d2 s2 hd2 => hP m2 d2 s2 hd2⟩
  rw [triF_nx, aft_nx, triF_seq, triF_if]
  simp only [tri_t2, tri_gVar, tri_fC]
  refine ⟨_, rfl, ?_⟩
  rw [tri_eqI, tri_asB]
  split
  · rw [triF_ret]
    simp only [tri_fL, tri_aC, tri_gVar, tri_aN]
    exact ⟨_, rfl, _, rfl, some_way_at s1 hg h1 h2 fun m2 d2 s2 hd2 => hP m2 d2 s2 hd2⟩
  rw [triF_nx, aft_nx, triF_ret]
  simp only [tri_fL, tri_aC, tri_gVar, tri_aN, tri_f2, tri_fC]
  refine ⟨_, rfl, _, rfl, gridD_w hg ⟨_, rfl, gridD_h hg ?_⟩⟩
  exact grid_at s1 (by omega) (by omega) fun m2 d2 s2 hd2 => hP m2 d2 s2 hd2
end
end Hd
set_option Elab.async false
set_option linter.all false
set_option maxRecDepth 100000
set_option maxHeartbeats 4000000
namespace Hd
open PySem PySem.Spec PyProof.Rows L2 Den
def lotF (f : Nat → Bool) : D := .tup (((List.range 6).filter f).map fun k : Nat => D.int (k : Int))
theorem lotF_ints (f : Nat → Bool) : lotF f = .tup ((((List.range 6).filter f).map fun k : Nat => (k : Int)).map .int) := by
  unfold lotF
  rw [List.map_map]; rfl
theorem lotF_of (f : Nat → Bool) : intsOf (lotF f) = ((List.range 6).filter f).map fun k : Nat => (k : Int) := by rw [lotF_ints, intsOf_tup]
theorem lotF_its (f : Nat → Bool) : lotF f = .tup ((intsOf (lotF f)).map .int) := by
  rw [lotF_of]; exact lotF_ints f
theorem lotF_mem {f : Nat → Bool} {c : Nat} : (c : Int) ∈ intsOf (lotF f) ↔ c < 6 ∧ f c = true := by
  rw [lotF_of]
  simp only [List.mem_map, List.mem_filter, List.mem_range]
  constructor
  · rintro ⟨a, ⟨h1, h2⟩, e⟩
    have : a = c := by omega
    subst this
    exact ⟨h1, h2⟩
  · rintro ⟨h1, h2⟩
    exact ⟨c, ⟨h1, h2⟩, rfl⟩
theorem lotF_congr {f g : Nat → Bool} (h : ∀ c, c < 6 → f c = g c) : lotF f = lotF g := by
  unfold lotF
  rw [List.filter_congr fun c hc => h c (List.mem_range.mp hc)]
theorem lotF_flat (f : Nat → Bool) : (lotF f).flat = true := flat_lot (w := 6) ⟨((List.range 6).filter f).map fun k : Nat => (k : Int), lotF_ints f, fun k hk => by
  simp only [List.mem_map, List.mem_filter, List.mem_range] at hk
  obtain ⟨a, ⟨h1, _⟩, e⟩ := hk
  omega, by
  have := List.length_filter_le f (List.range 6)
  simp at this ⊢
  omega⟩
theorem rowOf_lotF {w : Nat} (hw : w ≤ 6) (f : Nat → Bool) : rowOf w (lotF f) = (List.range w).map f := by
  unfold rowOf
  refine List.map_congr_left fun c hc => ?_
  have hc := List.mem_range.mp hc
  by_cases h : f c = true
  · rw [h]; exact decide_eq_true (lotF_mem.mpr ⟨by omega, h⟩)
  · rw [Bool.eq_false_iff.mpr h]
    exact decide_eq_false fun z => h (lotF_mem.mp z).2
theorem join_lotF {f : Nat → Bool} {w : Nat} {r : List Bool} (hr : r.length = w) {m : SM} {P : D → SM → Prop} (hw : w ≤ 6) (hP : P (lotF fun c => f c || r.getD c false) m) : Tri (den__law_join [.lst [lotF f, lotR w r]]) m P := by
  refine join_run (fun d hd => ?_) (by simp) ?_
  · simp at hd
    rcases hd with e | e
    · rw [e]; exact lotF_its f
    · rw [e]; exact (lotR_lot (by omega) r).its
  · have e : D.tup ((jn 6 [lotF f, lotR w r]).map fun k : Nat => D.int (k : Int)) = lotF fun c => f c || r.getD c false := by
      unfold jn
      show lotF _ = _
      refine lotF_congr fun c hc => ?_
      simp only [List.any_cons, List.any_nil, Bool.or_false]
      have e1 : decide ((c : Int) ∈ intsOf (lotF f)) = f c := by
        by_cases h : f c = true
        · rw [h]; exact decide_eq_true (lotF_mem.mpr ⟨hc, h⟩)
        · rw [Bool.eq_false_iff.mpr h]; exact decide_eq_false fun z => h (lotF_mem.mp z).2
      have e2 : decide ((c : Int) ∈ intsOf (lotR w r)) = r.getD c false := by
        unfold lotR
        rw [intsOf_tup]
        by_cases h : r.getD c false = true
        · rw [h]
          refine decide_eq_true (lotN_mem.mpr ⟨c, ?_, h, rfl⟩)
          by_cases hh : c < r.length
          · omega
          · rw [List.getD_eq_getElem?_getD, List.getElem?_eq_none (by omega)] at h; cases h
        · rw [Bool.eq_false_iff.mpr h]
          refine decide_eq_false fun z => ?_
          obtain ⟨i, _, h2, e⟩ := lotN_mem.mp z
          have : i = c := by omega
          subst this
          exact h h2
      rw [e1, e2]
    rw [e]; exact hP
def osOf (h : Nat) (G : Nat → Nat → Bool) : List D := (List.range h).map fun i => lotF (G i)
theorem osOf_len (h : Nat) (G : Nat → Nat → Bool) : (osOf h G).length = h := by simp [osOf]
theorem osOf_get {h i : Nat} {G : Nat → Nat → Bool} (hi : i < h) : (osOf h G)[i]? = some (lotF (G i)) := by
  unfold osOf
  rw [List.getElem?_map, List.getElem?_range hi]; rfl
theorem osOf_congr {h : Nat} {G G' : Nat → Nat → Bool} (e : ∀ i, i < h → ∀ c, c < 6 → G i c = G' i c) : osOf h G = osOf h G' := by
  unfold osOf
  exact List.map_congr_left fun i hi => lotF_congr (e i (List.mem_range.mp hi))
theorem osOf_set {h j : Nat} {G : Nat → Nat → Bool} {q : Nat → Bool} : (osOf h G).set j (lotF q) = osOf h fun i => if i = j then q else G i := by
  refine List.ext_getElem (by simp [osOf]) fun i h1 h2 => ?_
  rw [osOf_len] at h2
  rw [List.getElem_set]
  by_cases hij : j = i
  · subst hij
    rw [if_pos rfl]
    simp [osOf]
  · rw [if_neg hij]
    have : ¬ i = j := fun z => hij z.symm
    simp [osOf, this]
def at2 (a : List (List Bool)) (i c : Nat) : Bool := (a.getD i []).getD c false
def backR (h w : Nat) (a x : List (List Bool)) : List (List Bool) := prodR w (prodR h a x) a
theorem map_getD {β : Type} (a : List (List Bool)) (F : List Bool → β) : a.map F = (List.range a.length).map fun i => F (a.getD i []) := by
  refine List.ext_getElem (by simp) fun i h1 h2 => ?_
  have hi : i < a.length := by simpa using h1
  simp [hi]
theorem there_eq {w : Nat} {a x : List (List Bool)} (hx : x.length = w) :
    ((List.range a.length).map fun i => (List.range w).map fun c => (cellsR w a.length x).any fun p => at2 a i p.1 && at2 a p.2 c) = backR a.length w a x := by
  unfold backR prodR
  rw [List.map_map, map_getD a]
  refine List.map_congr_left fun i hi => ?_
  refine List.map_congr_left fun c hc => ?_
  rw [Bool.eq_iff_iff]
  simp only [List.any_eq_true, Bool.and_eq_true, List.mem_range, hx]
  constructor
  · rintro ⟨⟨k, l⟩, hm, h1, h2⟩
    obtain ⟨a1, a2, a3⟩ := cellsR_mem.mp hm
    refine ⟨l, a2, ?_, h2⟩
    have e : ((List.range a.length).map fun k => (List.range w).any fun j => (a.getD i []).getD j false && (x.getD j []).getD k false).getD l false = (List.range w).any fun j => (a.getD i []).getD j false && (x.getD j []).getD l false := by
      simp [List.getD, a2]
    rw [e, List.any_eq_true]
    exact ⟨k, List.mem_range.mpr a1, by rw [Bool.and_eq_true]; exact ⟨h1, a3⟩⟩
  · rintro ⟨l, a2, h1, h2⟩
    have e : ((List.range a.length).map fun k => (List.range w).any fun j => (a.getD i []).getD j false && (x.getD j []).getD k false).getD l false = (List.range w).any fun j => (a.getD i []).getD j false && (x.getD j []).getD l false := by
      simp [List.getD, a2]
    rw [e, List.any_eq_true] at h1
    obtain ⟨k, hk, q⟩ := h1
    rw [Bool.and_eq_true] at q
    exact ⟨(k, l), cellsR_mem.mpr ⟨List.mem_range.mp hk, a2, q.2⟩, q.1, h2⟩
theorem backR_rect {w : Nat} {a x : List (List Bool)} (hA : Rect w a) : Rect w (backR a.length w a x) := by
  unfold backR
  exact ⟨by rw [prodR_len, prodR_len]; exact hA.high, hA.wide, fun r hr => by
    unfold prodR at hr
    obtain ⟨_, _, e⟩ := List.mem_map.mp hr
    rw [← e]; simp⟩
theorem backR_len {h w : Nat} {a x : List (List Bool)} : (backR h w a x).length = a.length := by unfold backR; rw [prodR_len, prodR_len]
theorem there_run {w : Nat} {a x : List (List Bool)} {m : SM} {P : D → SM → Prop} (hA : Rect w a) (hX : Rect a.length x) (hx : x.length = w) (hP : P (gridD a.length w (backR a.length w a x)) m) : Tri (den__law_there [gridD a.length w a, gridD w a.length x]) m P := by
  have h6 := hA.high
  have w6 := hA.wide
  unfold den__law_there
  rw [tri_runF]
  refine ⟨rfl, ?_⟩
  rw [triF_seq, triF_asg]
  simp only [tri_fL, tri_aC, tri_gVar, tri_aN]
  refine ⟨_, rfl, lots_run (by omega) hA.row (by omega) ⟨rfl, ?_⟩⟩
  rw [aft_nx, triF_seq, triF_new]
  simp only [tri_comp, tri_iSeq, tri_gVar]
  refine ⟨_, rfl, ?_⟩
  rw [tri_itsL]
  refine ⟨by simp; omega, tri_compM (fun _ => lotF fun _ => false) _ (fun d hd => ?_) ?_⟩
  · refine ⟨_, rfl, ?_⟩
    simp only [tri_fTup, tri_aN]
    exact ⟨by simp, by trivial, rfl⟩
  have e0 : (a.map (lotR w)).map (fun _ => lotF fun _ => false) = osOf a.length fun i c => (List.take 0 (cellsR w a.length x)).any fun p => at2 a i p.1 && at2 a p.2 c := by
    unfold osOf
    refine List.ext_getElem (by simp) fun i h1 h2 => ?_
    simp
  rw [e0]
  refine ⟨rfl, ?_⟩
  rw [aft_nx, triF_seq, triF_for]
  simp only [tri_iSeq, tri_fL, tri_aC, tri_gVar, tri_aN]
  refine ⟨_, rfl, ?_⟩
  rw [show gridD w a.length x = gridD x.length a.length x by rw [hx]]
  refine cells_run hX ?_
  rw [tri_itsL, hx]
  generalize ecs : cellsR w a.length x = cs
  refine triF_loop (fun n ρ m' => m' = m ∧ ∃ s4 s5 s6, ρ = [.va (gridD a.length w a), .va (gridD w a.length x), .va (.lst (a.map (lotR w))), .ow (osOf a.length fun i c => (cs.take n).any fun p => at2 a i p.1 && at2 a p.2 c), s4, s5, s6]) _ 0 _ m ⟨rfl, .no, .no, .no, rfl⟩ (fun n d ρ m' hd hI => ?_) (fun ρ m' hI => ?_)
  · obtain ⟨em, s4, s5, s6, eρ⟩ := hI
    subst em eρ
    rw [Nat.zero_add]
    rw [List.getElem?_map] at hd
    obtain ⟨⟨k, l⟩, hp, ep⟩ := Option.map_eq_some_iff.mp hd
    have hmem : (k, l) ∈ cellsR w a.length x := by rw [ecs]; exact List.mem_of_getElem? hp
    obtain ⟨hk, hl, _⟩ := cellsR_mem.mp hmem
    subst ep
    refine ⟨_, rfl, ?_⟩
    rw [triF_for]
    simp only [tri_iRan, tri_fL, tri_aC, tri_gVar, tri_aN, tri_len]
    refine ⟨_, rfl, _, rfl, rfl, ?_⟩
    rw [List.length_map, tri_range]
    refine ⟨by omega, ?_⟩
    refine triF_loop (fun j ρ m2 => m2 = m' ∧ ∃ s5, ρ = [.va (gridD a.length w a), .va (gridD w a.length x), .va (.lst (a.map (lotR w))), .ow (osOf a.length fun i c => ((cs.take n).any fun p => at2 a i p.1 && at2 a p.2 c) || (decide (i < j) && (at2 a i k && at2 a l c))), .va (pairD (k, l)), s5, s6]) _ 0 _ m' ⟨rfl, s5, ?_⟩ (fun j d ρ m2 hd hI => ?_) (fun ρ m2 hI => ?_)
    · simp
    · obtain ⟨em, s5, eρ⟩ := hI
      subst em eρ
      obtain ⟨hj, ed⟩ := ran_at hd
      rw [Int.toNat_natCast] at hj
      subst ed
      rw [Nat.zero_add]
      refine ⟨_, rfl, ?_⟩
      rw [triF_if]
      simp only [tri_t2, tri_f2, tri_gVar, tri_fC]
      refine ⟨_, rfl, ?_⟩
      unfold pairD
      rw [tri_ixT]
      refine ⟨.int (k : Nat), rfl, _, rfl, _, rfl, ?_⟩
      rw [tri_ixL, Den.atI_nat]
      refine ⟨lotR w a[j], by simp [hj], ?_⟩
      show Tri (dIn _ (.tup ((lotN w a[j]).map .int))) m2 _
      rw [tri_inT, tri_asB]
      have hrow : a[j].length = w := hA.row _ (List.getElem_mem hj)
      have hgj : a.getD j [] = a[j] := by simp [List.getD, hj]
      have hrl : a[l].length = w := hA.row _ (List.getElem_mem hl)
      have hgl : a.getD l [] = a[l] := by simp [List.getD, hl]
      have ek : decide ((k : Int) ∈ lotN w a[j]) = at2 a j k := by
        unfold at2
        rw [hgj]
        by_cases q : (a[j]).getD k false = true
        · rw [q]; exact decide_eq_true (lotN_mem.mpr ⟨k, hk, q, rfl⟩)
        · rw [Bool.eq_false_iff.mpr q]
          refine decide_eq_false fun z => ?_
          obtain ⟨i, _, h2, e⟩ := lotN_mem.mp z
          have : i = k := by omega
          subst this
          exact q h2
      rw [ek]
      by_cases hb : at2 a j k = true
      · rw [if_pos hb]
        refine triF_set rfl ?_
        simp only [tri_fL, tri_aC, tri_fNew, tri_lDis, tri_f2, tri_gVar, tri_fC, tri_aN]
        refine ⟨_, rfl, _, rfl, ?_⟩
        rw [tri_ixL, Den.atI_nat]
        refine ⟨_, osOf_get hj, _, rfl, _, rfl, ?_⟩
        rw [tri_ixT]
        refine ⟨.int (l : Nat), rfl, ?_⟩
        rw [tri_ixL, Den.atI_nat]
        refine ⟨lotR w a[l], by simp [hl], by simp, ?_⟩
        refine join_lotF hrl w6 ⟨_, rfl, (j : Int), j, rfl, by simp [lotF_flat], ?_, ?_⟩
        · rw [osOf_len]; exact ixN_nat hj
        · rw [osOf_set]
          refine ⟨by trivial, .va (.int (j : Nat)), ?_⟩
          have e : (osOf a.length fun i => if i = j then (fun c => (((cs.take n).any fun p => at2 a j p.1 && at2 a p.2 c) || (decide (j < j) && (at2 a j k && at2 a l c))) || (a[l]).getD c false) else fun c => (((cs.take n).any fun p => at2 a i p.1 && at2 a p.2 c) || (decide (i < j) && (at2 a i k && at2 a l c)))) =
              osOf a.length fun i c => (((cs.take n).any fun p => at2 a i p.1 && at2 a p.2 c) || (decide (i < j + 1) && (at2 a i k && at2 a l c))) := by
            refine osOf_congr fun i hi c hc => ?_
            by_cases hij : i = j
            · subst hij
              have el : (a[l]).getD c false = at2 a l c := by unfold at2; rw [hgl]
              rw [if_pos rfl, el, hb]
              simp
            · rw [if_neg hij]
              have : decide (i < j + 1) = decide (i < j) := by
                rw [decide_eq_decide]; omega
              rw [this]
          rw [← e]
          rfl
      · rw [if_neg hb, triF_nx]
        refine ⟨by trivial, .va (.int (j : Nat)), ?_⟩
        have e : (osOf a.length fun i c => (((cs.take n).any fun p => at2 a i p.1 && at2 a p.2 c) || (decide (i < j) && (at2 a i k && at2 a l c)))) = osOf a.length fun i c => (((cs.take n).any fun p => at2 a i p.1 && at2 a p.2 c) || (decide (i < j + 1) && (at2 a i k && at2 a l c))) := by
          refine osOf_congr fun i hi c hc => ?_
          by_cases hij : i = j
          · subst hij
            rw [Bool.eq_false_iff.mpr hb]; simp
          · have : decide (i < j + 1) = decide (i < j) := by
              rw [decide_eq_decide]; omega
            rw [this]
        rw [← e]
        rfl
    · obtain ⟨em, s5, eρ⟩ := hI
      subst em eρ
      refine ⟨rfl, .va (pairD (k, l)), s5, s6, ?_⟩
      have e : (osOf a.length fun i c => (((cs.take n).any fun p => at2 a i p.1 && at2 a p.2 c) || (decide (i < 0 + ((List.range (a.length : Int).toNat).map fun i : Nat => D.int (i : Int)).length) && (at2 a i k && at2 a l c)))) = osOf a.length fun i c => (cs.take (n + 1)).any fun p => at2 a i p.1 && at2 a p.2 c := by
        refine osOf_congr fun i hi c hc => ?_
        rw [List.take_succ, hp]
        simp [hi]
      rw [← e]
  · obtain ⟨em, s4, s5, s6, eρ⟩ := hI
    subst em eρ
    rw [aft_nx, triF_ret]
    simp only [tri_fL, tri_aC, tri_f2, tri_gVar, tri_fC, tri_aN]
    refine ⟨_, rfl, _, rfl, ix_w ?_⟩
    refine of_run (fun d hd => ?_) (by rw [osOf_len]; omega) (by omega) ?_
    · obtain ⟨i, _, e⟩ := List.mem_map.mp hd
      rw [← e]; exact lotF_its _
    · rw [osOf_len, fin_rt]
      have e : (osOf a.length fun i c => (cs.take (0 + (cs.map pairD).length)).any fun p => at2 a i p.1 && at2 a p.2 c).map (rowOf w) = backR a.length w a x := by
        rw [← there_eq hx, ecs]
        unfold osOf
        rw [List.map_map]
        refine List.map_congr_left fun i hi => ?_
        show rowOf w (lotF _) = _
        rw [rowOf_lotF w6]
        simp
      rw [e]; exact hP
end Hd
set_option Elab.async false
set_option linter.all false
set_option maxRecDepth 100000
set_option maxHeartbeats 4000000
namespace Hd
open PySem PySem.Spec PyProof.Rows L2 Den
section
variable {m : SM} {P : D → SM → Prop} {n w : Nat} {a b x : List (List Bool)}
theorem py_two (i j : Int) : D.py (.tup [.int i, .int j]) = some (.tuple [.int i, .int j]) := by simp [D.py, D.pys]
theorem shaped_two (i j : Int) : SeqAt.shaped (.tuple [.int i, .int j]) = true := by
  unfold SeqAt.shaped
  simp [PyData.canLay0, PyData.canLayAll0, PyData.depth, PyData.depthAll]
theorem eqv_two (i j k l : Int) : PyData.eqv (.tuple [.int i, .int j]) (.tuple [.int k, .int l]) = (decide (i = k) && decide (j = l)) := by
  simp [PyData.eqv, PyData.eqvAll]
  rfl
theorem eq_two {i j k l : Int} (hP : P (.bl (decide (i = k) && decide (j = l))) m) : Tri (dEq (.tup [.int i, .int j]) (.tup [.int k, .int l])) m P := by
  unfold dEq dEqB
  rw [py_two, py_two]
  simp only [shaped_two, Bool.and_self, if_true]
  rw [eqv_two, tri_pure]
  exact hP
theorem ne_two {i j k l : Int} (hP : P (.bl (!(decide (i = k) && decide (j = l)))) m) : Tri (dNe (.tup [.int i, .int j]) (.tup [.int k, .int l])) m P := by
  unfold dNe dEqB
  rw [py_two, py_two]
  simp only [shaped_two, Bool.and_self, if_true]
  rw [eqv_two, tri_pure]
  exact hP
theorem is_cross_at {v : Nat} (hP : P (.bl (decide ((x.length : Int) = w) && decide ((v : Int) = a.length))) m) : Tri (den_is_crosswise [tabD w a, tabD v x]) m P := by
  unfold den_is_crosswise
  rw [tri_runF]
  refine ⟨rfl, ?_⟩
  rw [triF_ret]
  simp only [tri_f2, tri_gProp, tri_fTup, tri_aC, tri_gVar, tri_aN]
  exact ⟨_, rfl, rfl, size_at ⟨_, rfl, rfl, width_of_at ⟨_, rfl, rfl, height_at ⟨by simp, eq_two hP⟩⟩⟩⟩
theorem cross_ok (hx : x.length = w) (hP : P .non m) : Tri (den_check_crosswise [tabD w a, tabD a.length x]) m P := by
  unfold den_check_crosswise
  rw [tri_runF]
  refine ⟨rfl, ?_⟩
  rw [triF_if]
  simp only [tri_tNo, tri_tT, tri_fL, tri_aC, tri_gVar, tri_aN]
  refine ⟨_, rfl, _, rfl, is_cross_at ?_⟩
  rw [tri_truB, hx]
  simp only [decide_true, Bool.and_self, Bool.not_true, Bool.false_eq_true, if_false, triF_nx]
  exact hP
theorem cross_err {v : Nat} (h : x.length ≠ w ∨ v ≠ a.length) : den_check_crosswise [tabD w a, tabD v x] m = .err "UnlikeSizes" (unlike w a v x) m := by
  have hC : tNo (tT (fL den_is_crosswise (aC (gVar 0) (aC (gVar 1) aN)))) (vw (allM [.va (tabD w a), .va (tabD v x)]) [.va (tabD w a), .va (tabD v x)]) m = .ok true m := tri_exact (by
    simp only [tri_tNo, tri_tT, tri_fL, tri_aC, tri_gVar, tri_aN]
    refine ⟨_, rfl, _, rfl, is_cross_at ?_⟩
    rw [tri_truB]
    have : (decide ((x.length : Int) = w) && decide ((v : Int) = a.length)) = false := by
      rcases h with q | q
      · rw [decide_eq_false (by omega)]; rfl
      · rw [decide_eq_false (p := (v : Int) = a.length) (by omega), Bool.and_false]
    rw [this]
    exact ⟨rfl, rfl⟩)
  have hA : aC (gProp "Table" den_Table_size (gVar 0)) (aC (gProp "Table" den_Table_size (gVar 1)) aN) (vw [] [.va (tabD w a), .va (tabD v x)]) m = .ok [sidesD w a, sidesD v x] m := tri_exact (by
    simp only [tri_aC, tri_gProp, tri_gVar, tri_aN]
    exact ⟨_, rfl, rfl, size_at ⟨_, rfl, rfl, size_at ⟨rfl, rfl⟩⟩⟩)
  refine runF_ex (ρ := [.va (tabD w a), .va (tabD v x)]) rfl ?_
  show gIf _ _ _ [.va (tabD w a), .va (tabD v x)] m = _
  unfold gIf
  rw [exB_run, hC]
  simp only [if_true]
  unfold gRaise
  rw [exB_run, hA]
  rfl
theorem backw_ok (hA : Rect w a) (hX : Rect a.length x) (hx : x.length = w) (hP : P (tabD w (backR a.length w a x)) m) : Tri (den_back_and_forth [tabD w a, tabD a.length x]) m P := by
  unfold den_back_and_forth
  rw [tri_runF]
  refine ⟨rfl, ?_⟩
  rw [triF_seq, triF_exp]
  simp only [tri_fL, tri_aC, tri_gVar, tri_aN]
  refine ⟨_, rfl, _, rfl, cross_ok hx ?_⟩
  rw [aft_nx, triF_ret, tri_gBinO, tri_gBinO]
  simp only [tri_gVar]
  refine ⟨_, rfl, _, rfl, rfl, ?_⟩
  rw [show tabD w a = tabD x.length a by rw [hx]]
  refine mul_at (by rw [hx]; exact hA) hX ⟨rfl, _, rfl, rfl, ?_⟩
  rw [show tabD x.length a = tabD w a by rw [hx]]
  have hR : Rect a.length (prodR a.length a x) := prodR_rect hA hA.high
  exact mul_at hR hA ⟨rfl, hP⟩
theorem backw_err {v : Nat} (h : x.length ≠ w ∨ v ≠ a.length) : den_back_and_forth [tabD w a, tabD v x] m = .err "UnlikeSizes" (unlike w a v x) m := by
  refine runF_ex (ρ := [.va (tabD w a), .va (tabD v x)]) rfl ?_
  have hx : fL den_check_crosswise (aC (gVar 0) (aC (gVar 1) aN)) (vw [] [.va (tabD w a), .va (tabD v x)]) m = .err "UnlikeSizes" (unlike w a v x) m := by
    have : fL den_check_crosswise (aC (gVar 0) (aC (gVar 1) aN)) (vw [] [.va (tabD w a), .va (tabD v x)]) m = den_check_crosswise [tabD w a, tabD v x] m := rfl
    rw [this, cross_err h]
  show gSeq (gExp _) _ [.va (tabD w a), .va (tabD v x)] m = _
  unfold gSeq gExp
  rw [bind_run, exB_run, hx]
  rfl
theorem eq2_at (hP : P (.bl (eqR a b)) m) : Tri (den_Table_eq [tabD w a, tabD w b]) m P := by
  unfold den_Table_eq
  unfold tabD fieldsD
  simp [tri_runF, triF_seq, triF_nx, triF_rt, triF_bk, triF_ct, triF_ret, triF_if, triF_asg, triF_for, aft_nx, aft_rt, aft_rf, fin_rt, fin_rf, triF_retO, fin_nx, tri_fC, tri_gVar, tri_f2, tri_f1, tri_fL, tri_aN, tri_aC, tri_fTup, tri_lDis, tri_fNew, tri_fNot, tri_fAnd, tri_fOr, tri_fIf, tri_fCh, tri_tT, tri_t2, tri_tYes, tri_tNo, tri_tAnd, tri_tOr, tri_asB, tri_truB, tri_truI, tri_truL, tri_truT, tri_truN, tri_add, tri_sub, tri_lt, tri_le, tri_gt, tri_ge, tri_int, tri_len, tri_eqI, tri_neI, tri_iSeq, tri_itsL, tri_itsT, tri_iRan, tri_range, tri_iG, tri_enum, tri_comp, tri_tupL, tri_tupT, tri_pure, tri_bind, tri_need, tri_lim, tri_noErr, tri_gIsi, tri_gProp, tri_gInv, tri_gFld, tri_callK, tri_lG, tri_list_tup, tri_isBF, tri_isIN, tri_isBN, vw, allM, Sl.see, dLen1, D.plainOr, isCl, D.tyn, Den.isObj, dFld, pick]
  simp only [tri_ofO]
  refine ⟨_, rfl, _, rfl, ?_⟩
  rw [tri_eqI, tri_truB, decide_eq_true rfl, if_pos rfl]
  exact ⟨_, rfl, _, rfl, eq_cells2 hP⟩
theorem eqC2_at (hP : P (.bl (eqR a b)) m) : Tri (dEqC "Table" den_Table_eq (tabD w a) (tabD w b)) m P := by
  unfold dEqC dEqO
  simp only [tri_bind, tri_need, isT]
  refine ⟨rfl, ?_⟩
  simp only [if_true, tri_bind, tri_need, tri_noErr, tri_pure]
  exact eq2_at ⟨rfl, hP⟩
theorem leads_ok (hA : Rect w a) (hX : Rect a.length x) (hx : x.length = w) (hP : P (.bl (eqR (backR a.length w a x) a)) m) : Tri (den_leads_back [tabD w a, tabD a.length x]) m P := by
  unfold den_leads_back
  rw [tri_runF]
  refine ⟨rfl, ?_⟩
  rw [triF_ret]
  simp only [tri_f2, tri_fL, tri_aC, tri_gVar, tri_aN]
  exact ⟨_, rfl, _, rfl, backw_ok hA hX hx ⟨_, rfl, eqC2_at hP⟩⟩
theorem leads_err {v : Nat} (h : x.length ≠ w ∨ v ≠ a.length) : den_leads_back [tabD w a, tabD v x] m = .err "UnlikeSizes" (unlike w a v x) m := by
  refine runF_ex (ρ := [.va (tabD w a), .va (tabD v x)]) rfl ?_
  have hx : f2 (dEqC "Table" den_Table_eq) (fL den_back_and_forth (aC (gVar 0) (aC (gVar 1) aN))) (gVar 0) (vw (allM [.va (tabD w a), .va (tabD v x)]) [.va (tabD w a), .va (tabD v x)]) m = .err "UnlikeSizes" (unlike w a v x) m := by
    have : fL den_back_and_forth (aC (gVar 0) (aC (gVar 1) aN)) (vw (allM [.va (tabD w a), .va (tabD v x)]) [.va (tabD w a), .va (tabD v x)]) m = den_back_and_forth [tabD w a, tabD v x] m := rfl
    unfold f2
    rw [bind_run, this, backw_err h]
  show gRet _ [.va (tabD w a), .va (tabD v x)] m = _
  unfold gRet
  rw [exB_run, hx]
end
end Hd
set_option Elab.async false
set_option linter.all false
set_option maxRecDepth 100000
set_option maxHeartbeats 4000000
namespace Hd
open PySem PySem.Spec PyProof.Rows L2 Den
def badC (a : List (List Bool)) (p : Nat × Nat) : Bool := !at2 a p.1 p.2
def firstR (n w : Nat) (b a : List (List Bool)) : Option (Nat × Nat) := (cellsR n w b).find? (badC a)
def optD : Option (Nat × Nat) → D
  | none => .non
  | some p => pairD p
theorem find_row {a : List (List Bool)} {r : List Bool} {i k w : Nat} (hk : k < w) (hr : r.getD k false = true) (hb : badC a (i, k) = true) (h : (cellsRow k r i).find? (badC a) = none) : (cellsRow w r i).find? (badC a) = some (i, k) := by
  induction w with
  | zero => omega
  | succ w ih =>
    rw [cellsRow_succ, List.find?_append]
    by_cases e : k = w
    · subst e
      rw [h, if_pos hr]
      simp [hb]
    · rw [ih (by omega)]; rfl
theorem find_all {a b : List (List Bool)} {n w j k : Nat} (hj : j < n) (hk : k < w) (hr : (b.getD j []).getD k false = true) (hb : badC a (j, k) = true) (h : (cellsR j w b ++ cellsRow k (b.getD j []) j).find? (badC a) = none) : firstR n w b a = some (j, k) := by
  rw [List.find?_append, Option.or_eq_none_iff] at h
  unfold firstR
  induction n with
  | zero => omega
  | succ n ih =>
    rw [cellsR_succ, List.find?_append]
    by_cases e : j = n
    · subst e
      rw [h.1, find_row hk hr hb h.2]; rfl
    · rw [ih (by omega)]; rfl
section
variable {m : SM} {P : D → SM → Prop} {n w : Nat} {a b x : List (List Bool)}
theorem tri_gGetO {c : Str} {g : List D → M D} {F G : EV → M D} {ρ : EV} : Tri (gGetO c g F G ρ) m P ↔ Tri (F ρ) m fun x m => Tri (G ρ) m fun y m => Den.isObj c x = true ∧ Tri (g [x, y]) m P := by
  unfold gGetO
  simp only [tri_bind, tri_need]
theorem ixT_at {xs : List D} {i : Nat} {d : D} (h : xs[i]? = some d) (q : P d m) : Tri (dIx (.tup xs) (.int (i : Nat))) m P := by
  rw [tri_ixT, Den.atI_nat]
  exact ⟨d, h, q⟩
theorem pair_at {i k u v : Nat} (hi : i < u) (hk : k < v) (hP : P (.bl true) m) : Tri (den_is_number_pair [.tup [.int (i : Nat), .int (k : Nat)], .tup [.int (u : Nat), .int (v : Nat)]]) m P := by
  unfold den_is_number_pair
  rw [tri_runF]
  refine ⟨rfl, ?_⟩
  rw [triF_seq, triF_if]
  simp only [tri_tOr, tri_tNo, tri_tT, tri_gIsi, tri_gVar]
  refine ⟨_, rfl, rfl, ?_⟩
  rw [tri_truB]
  rw [if_neg (by simp [isCl, D.tyn])]
  simp only [tri_t2, tri_fL, tri_aC, tri_gVar, tri_aN, tri_fC, tri_len]
  refine ⟨_, rfl, (2 : Int), rfl, ?_⟩
  rw [tri_neI, tri_asB, if_neg (by simp), triF_nx, aft_nx, triF_ret]
  simp only [tri_fAnd, tri_fL, tri_aC, tri_f2, tri_gVar, tri_aN, tri_fC]
  refine ⟨_, rfl, ixT_at (i := 0) rfl ⟨_, rfl, ixT_at (i := 0) rfl (number_at (by omega) (by omega) ?_)⟩⟩
  rw [tri_truB, if_pos rfl]
  exact ⟨_, rfl, ixT_at (i := 1) rfl ⟨_, rfl, ixT_at (i := 1) rfl (number_at (by omega) (by omega) hP)⟩⟩
theorem getitem_at {i k : Nat} (hA : Rect w a) (hi : i < a.length) (hk : k < w) (hP : P (.bl (at2 a i k)) m) : Tri (den_Table_getitem [tabD w a, .tup [.int (i : Nat), .int (k : Nat)]]) m P := by
  unfold den_Table_getitem
  rw [tri_runF]
  refine ⟨rfl, ?_⟩
  rw [triF_seq, triF_if]
  simp only [tri_tNo, tri_tT, tri_fL, tri_aC, tri_gProp, tri_gVar, tri_aN]
  refine ⟨_, rfl, _, rfl, rfl, size_at (pair_at hi hk ?_)⟩
  rw [tri_truB, if_neg (by simp), triF_nx, aft_nx, triF_ret]
  simp only [tri_f2, tri_gFld, tri_gVar, tri_fC]
  refine ⟨_, rfl, fld_cells ⟨_, rfl, ?_⟩⟩
  refine ixT_at (i := 0) rfl ?_
  unfold cells
  have hrow : a[i].length = w := hA.row _ (List.getElem_mem hi)
  refine (ix_cell (c := a) (i := i) (k := k) hi (by omega) (Q := P) ?_).mono fun d m1 hd => ⟨_, rfl, ?_⟩
  · exact hP
  · exact ixT_at (i := 1) rfl hd
theorem same_size_ok (h : b.length = a.length) (hP : P .non m) : Tri (den_check_same_size [tabD w b, tabD w a]) m P := by
  unfold den_check_same_size
  rw [tri_runF]
  refine ⟨rfl, ?_⟩
  rw [triF_if]
  simp only [tri_t2, tri_gProp, tri_gVar]
  refine ⟨_, rfl, rfl, size_at ⟨_, rfl, rfl, size_at (ne_two ?_)⟩⟩
  rw [tri_asB, h]
  simp only [decide_true, Bool.and_self, Bool.not_true, Bool.false_eq_true, if_false, triF_nx]
  exact hP
theorem iter_at {Q : D → SM → Prop} (hP : Q (cells b) m) : Tri (den_Table_iter [tabD w b]) m Q := by
  unfold den_Table_iter
  rw [tri_runF]
  refine ⟨rfl, ?_⟩
  rw [triF_ret]
  simp only [tri_gFld, tri_gVar]
  exact ⟨_, rfl, fld_cells hP⟩
theorem tri_enumT {xs : List D} {Q : List D → SM → Prop} : Tri (dEnumT [.tup xs]) m Q ↔ Q (enumD xs) m := by unfold Tri; exact Iff.rfl
theorem enum_at {xs : List D} {j : Nat} {d : D} (h : (enumD xs)[j]? = some d) : ∃ e, xs[j]? = some e ∧ d = .tup [.int (j : Nat), e] := by
  unfold enumD at h
  rw [List.getElem?_map, List.getElem?_zipIdx] at h
  cases q : xs[j]? with
  | none => rw [q] at h; cases h
  | some e => rw [q] at h; cases h; exact ⟨e, rfl, by simp⟩
theorem outside_at (hB : Rect w b) (hA : Rect w a) (h : b.length = a.length) (hP : P (optD (firstR b.length w b a)) m) : Tri (den_first_outside [tabD w b, tabD w a]) m P := by
  unfold den_first_outside
  rw [tri_runF]
  refine ⟨rfl, ?_⟩
  rw [triF_seq, triF_exp]
  simp only [tri_fL, tri_aC, tri_gVar, tri_aN]
  refine ⟨_, rfl, _, rfl, same_size_ok h ?_⟩
  rw [aft_nx, triF_seq, triF_for]
  simp only [tri_iG, tri_aC, tri_gVar, tri_aN]
  refine ⟨_, rfl, ?_⟩
  unfold dEnumO
  rw [tri_bind, tri_need]
  refine ⟨rfl, ?_⟩
  rw [tri_bind]
  refine iter_at ?_
  unfold cells
  rw [tri_enumT]
  refine triF_loop (fun j ρ m' => m' = m ∧ (cellsR j w b).find? (badC a) = none ∧ ∃ s2 s3 s4 s5, ρ = [.va (tabD w b), .va (tabD w a), s2, s3, s4, s5]) _ 0 _ m ⟨rfl, by simp [cellsR], .no, .no, .no, .no, rfl⟩ (fun j d ρ m' hd hI => ?_) (fun ρ m' hI => ?_)
  · obtain ⟨em, hf, s2, s3, s4, s5, eρ⟩ := hI
    subst em eρ
    rw [Nat.zero_add] at hf
    obtain ⟨e, he, ed⟩ := enum_at hd
    subst ed
    have hj : j < b.length := by
      by_cases hh : j < b.length
      · exact hh
      · rw [List.getElem?_eq_none (by simpa using hh)] at he; cases he
    have ee : e = rowT b[j] := by
      rw [List.getElem?_map, List.getElem?_eq_getElem hj] at he
      exact (Option.some.inj he).symm
    subst ee
    have hrow : b[j].length = w := hB.row _ (List.getElem_mem hj)
    have hgj : b.getD j [] = b[j] := by simp [List.getD, hj]
    refine ⟨_, rfl, ?_⟩
    rw [triF_for]
    simp only [tri_iG, tri_aC, tri_gVar, tri_aN]
    refine ⟨rowT b[j], rfl, ?_⟩
    unfold rowT
    rw [tri_enumT]
    refine triF_loop (fun k ρ m2 => m2 = m' ∧ (cellsR j w b ++ cellsRow k (b.getD j []) j).find? (badC a) = none ∧ ∃ s4 s5, ρ = [.va (tabD w b), .va (tabD w a), .va (.int (j : Nat)), .va (.tup (b[j].map .bl)), s4, s5]) _ 0 _ m' ⟨rfl, by simp [cellsRow, hf], s4, s5, rfl⟩ (fun k d ρ m2 hd hI => ?_) (fun ρ m2 hI => ?_)
    · obtain ⟨em, hf2, s4, s5, eρ⟩ := hI
      subst em eρ
      rw [Nat.zero_add] at hf2 ⊢
      obtain ⟨e, he, ed⟩ := enum_at hd
      subst ed
      have hk : k < b[j].length := by
        by_cases hh : k < b[j].length
        · exact hh
        · rw [List.getElem?_eq_none (by simpa using hh)] at he; cases he
      have ee : e = .bl b[j][k] := by
        rw [List.getElem?_map, List.getElem?_eq_getElem hk] at he
        exact (Option.some.inj he).symm
      subst ee
      have hv : b[j][k] = (b.getD j []).getD k false := by rw [hgj]; simp [List.getD, hk]
      refine ⟨_, rfl, ?_⟩
      rw [triF_if]
      simp only [tri_tAnd, tri_tT, tri_gVar]
      refine ⟨.bl b[j][k], rfl, ?_⟩
      rw [tri_truB, hv]
      by_cases hb : (b.getD j []).getD k false = true
      · rw [if_pos hb]
        simp only [tri_tNo, tri_tT, tri_gGetO, tri_fTup, tri_aC, tri_gVar, tri_aN]
        refine ⟨_, rfl, .int (j : Nat), rfl, .int (k : Nat), rfl, by simp, rfl, getitem_at hA (by omega) (by omega) ?_⟩
        rw [tri_truB]
        by_cases hc : at2 a j k = true
        · rw [hc]
          simp only [Bool.not_true, Bool.false_eq_true, if_false, triF_nx]
          refine ⟨by trivial, ?_, .va (.int (k : Nat)), .va (.bl ((b.getD j []).getD k false)), rfl⟩
          rw [cellsRow_succ, if_pos hb, ← List.append_assoc, List.find?_append, hf2]
          simp [badC, hc]
        · rw [Bool.eq_false_iff.mpr hc]
          simp only [Bool.not_false, if_true, triF_ret, tri_fTup, tri_aC, tri_gVar, tri_aN]
          refine ⟨.int (j : Nat), rfl, .int (k : Nat), rfl, by simp, ?_⟩
          have q := find_all (n := b.length) (w := w) hj (by omega) hb (a := a) (by simp [badC, Bool.eq_false_iff.mpr hc]) hf2
          rw [q] at hP
          exact hP
      · rw [if_neg hb]
        simp only [Bool.false_eq_true, if_false, triF_nx]
        refine ⟨by trivial, ?_, .va (.int (k : Nat)), .va (.bl ((b.getD j []).getD k false)), rfl⟩
        rw [cellsRow_succ, if_neg hb, List.append_nil]
        exact hf2
    · obtain ⟨em, hf2, s4, s5, eρ⟩ := hI
      subst em eρ
      have el : 0 + (enumD (b[j].map D.bl)).length = w := by rw [enumD_length]; simp [hrow]
      rw [el] at hf2
      refine ⟨rfl, ?_, .va (.int (j : Nat)), .va (.tup (b[j].map .bl)), s4, s5, rfl⟩
      rw [show 0 + j + 1 = j + 1 by omega, cellsR_succ]
      exact hf2
  · obtain ⟨em, hf, s2, s3, s4, s5, eρ⟩ := hI
    subst em eρ
    have el : 0 + (enumD (b.map rowT)).length = b.length := by rw [enumD_length]; simp
    rw [el] at hf
    rw [aft_nx, triF_ret, tri_fC]
    have q : firstR b.length w b a = none := hf
    rw [q] at hP
    exact hP
theorem inside_at (hB : Rect w b) (hA : Rect w a) (h : b.length = a.length) (hP : P (.bl (firstR b.length w b a).isNone) m) : Tri (den_is_inside [tabD w b, tabD w a]) m P := by
  unfold den_is_inside
  rw [tri_runF]
  refine ⟨rfl, ?_⟩
  rw [triF_ret]
  simp only [tri_f2, tri_fL, tri_aC, tri_gVar, tri_aN, tri_fC]
  refine ⟨_, rfl, _, rfl, outside_at hB hA h ?_⟩
  cases q : firstR b.length w b a with
  | none =>
    rw [q] at hP
    show Tri (dIsN .non .non) m _
    rw [tri_isNN]; exact hP
  | some p =>
    rw [q] at hP
    show Tri (dIsN (.tup _) .non) m _
    rw [tri_isTN]; exact hP
end
end Hd
set_option Elab.async false
set_option linter.all false
set_option maxRecDepth 100000
set_option maxHeartbeats 4000000
namespace Hd
open PySem PySem.Spec PyProof.Rows L2 Den
def pyP (p : Nat × Nat) : PyData := .tuple [.int (p.1 : Nat), .int (p.2 : Nat)]
theorem py_pairs : ∀ cs : List (Nat × Nat), D.pys (cs.map pairD) = some (cs.map pyP)
  | [] => by simp [D.pys]
  | p :: cs => by
    rw [List.map_cons, D.pys, py_pairs cs]
    unfold pairD
    rw [py_two]; rfl
theorem lay_pairs : ∀ cs : List (Nat × Nat), PyData.canLayAll0 (cs.map pyP) = true ∧ PyData.depthAll (cs.map pyP) ≤ 2
  | [] => by simp [PyData.canLayAll0, PyData.depthAll]
  | p :: cs => by
    have ⟨h1, h2⟩ := lay_pairs cs
    have hb : (pyP p).depth ≤ 2 := by simp [pyP, PyData.depth, PyData.depthAll]
    have hl : (pyP p).canLay0 = true := by simp [pyP, PyData.canLay0, PyData.canLayAll0]
    simp only [List.map_cons, PyData.canLayAll0, PyData.depthAll, h1, hl, Bool.and_self, true_and]
    omega
theorem shaped_pairs (cs : List (Nat × Nat)) : SeqAt.shaped (PyData.list (cs.map pyP)) = true := by
  have ⟨h1, h2⟩ := lay_pairs cs
  have l : (PyData.list (cs.map pyP)).canLay0 = true := by simpa [PyData.canLay0] using h1
  unfold SeqAt.shaped
  have hd : (PyData.list (cs.map pyP)).depth = PyData.depthAll (cs.map pyP) + 1 := by rw [PyData.depth]
  rw [l, Bool.true_and]
  exact decide_eq_true (by omega)
section
variable {m : SM} {P : D → SM → Prop} {n w : Nat} {a b x : List (List Bool)}
theorem inL_at {p : Nat × Nat} {cs : List (Nat × Nat)} (hP : P (.bl (decide (p ∈ cs))) m) : Tri (dInL (pairD p) (.lst (cs.map pairD))) m P := by
  unfold dInL dInLB
  have e1 : (pairD p).py = some (pyP p) := py_two _ _
  have e2 : (D.lst (cs.map pairD)).py = some (.list (cs.map pyP)) := by rw [D.py, py_pairs]; rfl
  have e3 : SeqAt.shaped (pyP p) = true := shaped_two _ _
  rw [e1, e2]
  simp only [e3, shaped_pairs, Bool.and_self, if_true]
  have e4 : ((cs.map pyP).any fun z => PyData.eqv z (pyP p)) = decide (p ∈ cs) := by
    rw [List.any_map, Bool.eq_iff_iff, List.any_eq_true, decide_eq_true_iff]
    constructor
    · rintro ⟨q, hq, e⟩
      have e : PyData.eqv (pyP q) (pyP p) = true := e
      unfold pyP at e
      rw [eqv_two, Bool.and_eq_true, decide_eq_true_iff, decide_eq_true_iff] at e
      have : q = p := Prod.ext (by omega) (by omega)
      rw [← this]; exact hq
    · intro hp
      refine ⟨p, hp, ?_⟩
      show PyData.eqv (pyP p) (pyP p) = true
      unfold pyP
      rw [eqv_two]; simp
  rw [e4, tri_pure]
  exact hP
theorem all_eq {n w : Nat} {b a : List (List Bool)} (h : n = a.length) : ((cellsR n w b).all fun p => decide (p ∈ cellsR a.length w a)) = (firstR n w b a).isNone := by
  unfold firstR
  rw [Bool.eq_iff_iff, List.all_eq_true, Option.isNone_iff_eq_none, List.find?_eq_none]
  constructor
  · intro q p hp
    have z := of_decide_eq_true (q p hp)
    obtain ⟨i, k⟩ := p
    obtain ⟨_, _, z3⟩ := cellsR_mem.mp z
    have z4 : at2 a i k = true := z3
    simp [badC, z4]
  · intro q p hp
    have z := q p hp
    obtain ⟨i, k⟩ := p
    obtain ⟨z1, z2, _⟩ := cellsR_mem.mp hp
    refine decide_eq_true (cellsR_mem.mpr ⟨by omega, z2, ?_⟩)
    have z4 : ¬ (!at2 a i k) = true := z
    have z5 : at2 a i k = true := by simpa using z4
    exact z5
theorem under_ok (hA : Rect w a) (hX : Rect a.length x) (hx : x.length = w) (hP : P (.bl (firstR a.length w (backR a.length w a x) a).isNone) m) : Tri (den_is_under [tabD w a, tabD a.length x]) m P := by
  unfold den_is_under
  rw [tri_runF]
  refine ⟨rfl, ?_⟩
  rw [triF_ret]
  simp only [tri_fL, tri_aC, tri_gVar, tri_aN]
  refine ⟨_, rfl, _, rfl, backw_ok hA hX hx ⟨_, rfl, inside_at (backR_rect hA) hA backR_len ?_⟩⟩
  rw [backR_len]
  exact hP
theorem fL_err {g : List D → M D} {A : EV → M (List D)} {ρ : EV} {c : Str} {fs : List (Str × D)} {m' : SM} (h : A ρ m = .err c fs m') : fL g A ρ m = .err c fs m' := by
  unfold fL
  rw [bind_run, h]
theorem aC_err {F : EV → M D} {A : EV → M (List D)} {ρ : EV} {c : Str} {fs : List (Str × D)} {m' : SM} (h : F ρ m = .err c fs m') : aC F A ρ m = .err c fs m' := by
  unfold aC
  rw [bind_run, h]
theorem under_err {v : Nat} (h : x.length ≠ w ∨ v ≠ a.length) : den_is_under [tabD w a, tabD v x] m = .err "UnlikeSizes" (unlike w a v x) m := by
  refine runF_ex (ρ := [.va (tabD w a), .va (tabD v x)]) rfl ?_
  have hx : fL den_is_inside (aC (fL den_back_and_forth (aC (gVar 0) (aC (gVar 1) aN))) (aC (gVar 0) aN)) (vw (allM [.va (tabD w a), .va (tabD v x)]) [.va (tabD w a), .va (tabD v x)]) m = .err "UnlikeSizes" (unlike w a v x) m := by
    have : fL den_back_and_forth (aC (gVar 0) (aC (gVar 1) aN)) (vw (allM [.va (tabD w a), .va (tabD v x)]) [.va (tabD w a), .va (tabD v x)]) m = den_back_and_forth [tabD w a, tabD v x] m := rfl
    exact fL_err (aC_err (this.trans (backw_err h)))
  show gRet _ [.va (tabD w a), .va (tabD v x)] m = _
  unfold gRet
  rw [exB_run, hx]
theorem shows2 {h : Nat} (hR : Rect w a) (hh : a.length = h) (hP : P (.bl true) m) : Tri (den__law_shows [tabD w a, gridD h w a]) m P := by
  subst hh
  exact shows_at hR hP
theorem right_at (hA : Rect w a) (hX : Rect a.length x) (hx : x.length = w) (hP : P (.bl true) m) : Tri (den__law_right [tabD w a, gridD a.length w a, gridD w a.length x]) m P := by
  have h6 := hA.high
  unfold den__law_right
  rw [tri_runF]
  refine ⟨rfl, ?_⟩
  rw [triF_seq, triF_asg]
  simp only [tri_fL, tri_aC, tri_gVar, tri_aN]
  refine ⟨_, rfl, ?_⟩
  rw [show gridD w a.length x = gridD x.length a.length x by rw [hx]]
  refine table_at hX ⟨rfl, ?_⟩
  rw [aft_nx]
  show TriF (gSeq _ _ [.va (tabD w a), .va (gridD a.length w a), .va (gridD x.length a.length x), .va (tabD a.length x), .no, .no, .no, .no]) m _
  rw [triF_seq, triF_asg]
  simp only [tri_fL, tri_aC, tri_gVar, tri_aN]
  refine ⟨_, rfl, _, rfl, ?_⟩
  rw [show gridD x.length a.length x = gridD w a.length x by rw [hx]]
  refine there_run hA hX hx ⟨rfl, ?_⟩
  have hB : Rect w (backR a.length w a x) := backR_rect hA
  have hBl : (backR a.length w a x).length = a.length := backR_len
  rw [aft_nx]
  show TriF (gSeq _ _ [.va (tabD w a), .va (gridD a.length w a), .va (gridD w a.length x), .va (tabD a.length x), .va (gridD a.length w (backR a.length w a x)), .no, .no, .no]) m _
  rw [triF_seq, triF_asg]
  simp only [tri_fNew, tri_lDis, tri_aC, tri_fL, tri_gVar, tri_aN]
  refine ⟨_, rfl, _, rfl, under_ok hA hX hx ⟨_, rfl, _, rfl, leads_ok hA hX hx ⟨by simp, rfl, ?_⟩⟩⟩
  rw [aft_nx]
  show TriF (gSeq _ _ [.va (tabD w a), .va (gridD a.length w a), .va (gridD w a.length x), .va (tabD a.length x), .va (gridD a.length w (backR a.length w a x)), .va (.lst [.bl (firstR a.length w (backR a.length w a x) a).isNone, .bl (eqR (backR a.length w a x) a)]), .no, .no]) m _
  rw [triF_seq, triF_if]
  simp only [tri_tNo, tri_tT, tri_aC, tri_fL, tri_gVar, tri_aN]
  refine ⟨_, rfl, _, rfl, backw_ok hA hX hx ⟨_, rfl, shows2 hB hBl ?_⟩⟩
  rw [tri_truB, if_neg (by simp), triF_nx, aft_nx, triF_seq, triF_asg]
  simp only [tri_fL, tri_aC, tri_gVar, tri_aN]
  refine ⟨_, rfl, cells_run hA ⟨rfl, ?_⟩⟩
  rw [aft_nx]
  show TriF (gSeq _ _ [.va (tabD w a), .va (gridD a.length w a), .va (gridD w a.length x), .va (tabD a.length x), .va (gridD a.length w (backR a.length w a x)), .va (.lst [.bl (firstR a.length w (backR a.length w a x) a).isNone, .bl (eqR (backR a.length w a x) a)]), .va (.lst ((cellsR a.length w a).map pairD)), .no]) m _
  rw [triF_seq, triF_if]
  simp only [tri_tNo, tri_tT, tri_aC, tri_fL, tri_fNew, tri_lDis, tri_comp, tri_iSeq, tri_f2, tri_gVar, tri_aN]
  refine ⟨_, rfl, _, rfl, ?_⟩
  rw [show gridD a.length w (backR a.length w a x) = gridD (backR a.length w a x).length w (backR a.length w a x) by rw [hBl]]
  refine cells_run hB ?_
  rw [tri_itsL]
  have hcl := cellsR_len (n := (backR a.length w a x).length) (backR a.length w a x) hA.wide
  refine ⟨by rw [List.length_map]; omega, tri_compM (fun d => match d with | .tup [.int i, .int k] => .bl (decide ((i.toNat, k.toNat) ∈ cellsR a.length w a)) | _ => .non) _ (fun d hd => ?_) ?_⟩
  · obtain ⟨⟨i, k⟩, _, e⟩ := List.mem_map.mp hd
    subst e
    refine ⟨_, rfl, ?_⟩
    simp only [tri_f2, tri_gVar]
    refine ⟨_, rfl, _, rfl, inL_at ⟨rfl, ?_⟩⟩
    simp [pairD]
  · have e : ((cellsR (backR a.length w a x).length w (backR a.length w a x)).map pairD).map (fun d => match d with | .tup [.int i, .int k] => D.bl (decide ((i.toNat, k.toNat) ∈ cellsR a.length w a)) | _ => D.non) = ((cellsR (backR a.length w a x).length w (backR a.length w a x)).map fun p => decide (p ∈ cellsR a.length w a)).map .bl := by
      rw [List.map_map, List.map_map]
      refine List.map_congr_left fun p _ => ?_
      obtain ⟨i, k⟩ := p
      simp [pairD, Function.comp_def]
    rw [e, tri_all, List.all_map]
    have e2 : ((cellsR (backR a.length w a x).length w (backR a.length w a x)).all (id ∘ fun p => decide (p ∈ cellsR a.length w a))) = (firstR a.length w (backR a.length w a x) a).isNone := by
      rw [hBl]
      exact all_eq rfl
    rw [e2]
    refine ⟨_, rfl, _, rfl, ?_⟩
    rw [hBl]
    refine eq_grid ⟨by simp, ?_⟩
    refine same_lst (n := 5) (by simp) (fun y hy => ?_) _ _ ?_
    · simp at hy
      rcases hy with q | q <;> (rw [q]; exact same_bl _)
    rw [tri_truB, if_neg (by simp), triF_nx, aft_nx, triF_ret]
    simp only [tri_fAnd, tri_fL, tri_aC, tri_gVar, tri_aN]
    refine ⟨_, rfl, _, rfl, shows_at hA ?_⟩
    rw [tri_truB, if_pos rfl]
    exact ⟨_, rfl, _, rfl, shows2 hX hx hP⟩
end
end Hd
set_option Elab.async false
set_option linter.all false
set_option maxRecDepth 100000
set_option maxHeartbeats 4000000
namespace Hd
open PySem PySem.Spec PyProof.Rows L2 Den
theorem mod7 {x y : Int} (h0 : 0 ≤ x ∧ x ≤ 6) (y0 : 1 ≤ y) (y1 : y ≤ 6) : 0 ≤ (x + y) % 7 ∧ (x + y) % 7 ≤ 6 ∧ (x + y) % 7 ≠ x := by omega
section
variable {m : SM} {P : D → SM → Prop} {n w : Nat} {a b x : List (List Bool)}
theorem osize_at {hh ww : Nat} (hm : SI m) (h0 : hh ≤ 6) (w0 : ww ≤ 6) (hP : ∀ m' (p q : Nat), SI m' → p ≤ 6 → q ≤ 6 → (p ≠ hh ∨ q ≠ ww) → P (.lst [.int (p : Nat), .int (q : Nat)]) m') : Tri (den__law_other_size [.sto, .int (hh : Nat), .int (ww : Nat)]) m P := by
  unfold den__law_other_size
  rw [tri_runF]
  refine ⟨rfl, ?_⟩
  rw [triF_seq, triF_asg]
  simp only [tri_fL, tri_aC, tri_gVar, tri_aN, tri_fC]
  refine ⟨_, rfl, take_at hm (by omega) fun m1 z s1 z0 z1 => ⟨rfl, ?_⟩⟩
  rw [aft_nx, triF_seq, triF_asg]
  simp only [tri_f2, tri_fL, tri_aC, tri_gVar, tri_aN, tri_fC]
  refine ⟨_, rfl, take_at (k := 6) s1 (by omega) fun m2 y s2 y0 y1 => ?_⟩
  rw [tri_add]
  refine ⟨rfl, ?_⟩
  rw [aft_nx, triF_seq, triF_asg]
  simp only [tri_fL, tri_aC, tri_gVar, tri_aN, tri_fC]
  refine ⟨_, rfl, take_at (k := 3) s2 (by omega) fun m3 t s3 t0 t1 => ⟨rfl, ?_⟩⟩
  rw [aft_nx]
  show TriF (gSeq _ _ [.va .sto, .va (.int (hh : Nat)), .va (.int (ww : Nat)), .va (.int z), .va (.int (1 + y)), .va (.int t)]) m3 _
  obtain ⟨a0, a1, a2⟩ := mod7 (x := (hh : Nat)) (y := 1 + y) ⟨by omega, by omega⟩ (by omega) (by omega)
  obtain ⟨b0, b1, b2⟩ := mod7 (x := (ww : Nat)) (y := 1 + y) ⟨by omega, by omega⟩ (by omega) (by omega)
  obtain ⟨u, eu⟩ := Int.eq_ofNat_of_zero_le a0
  obtain ⟨v, e2w⟩ := Int.eq_ofNat_of_zero_le b0
  obtain ⟨o, eo⟩ := Int.eq_ofNat_of_zero_le z0
  rw [triF_seq, triF_if, tri_tAnd]
  simp only [tri_t2, tri_gVar, tri_fC]
  refine ⟨_, rfl, ?_⟩
  rw [tri_eqI, tri_asB]
  have rest : TriF (gSeq (gIf (t2 dEq (gVar 5) (fC (.int 1))) (gRet (fNew (lDis (aC (f2 dMod (fL dInt (aC (f2 dAdd (gVar 1) (gVar 4)) aN)) (fC (.int 7))) (aC (gVar 2) aN))))) (fun ρ => pure (.nx ρ))) (gSeq (gIf (t2 dEq (gVar 5) (fC (.int 2))) (gRet (fNew (lDis (aC (gVar 1) (aC (f2 dMod (fL dInt (aC (f2 dAdd (gVar 2) (gVar 4)) aN)) (fC (.int 7))) aN))))) (fun ρ => pure (.nx ρ))) (gRet (fNew (lDis (aC (f2 dMod (fL dInt (aC (f2 dAdd (gVar 1) (gVar 4)) aN)) (fC (.int 7))) (aC (gVar 3) aN))))))
      [.va .sto, .va (.int (hh : Nat)), .va (.int (ww : Nat)), .va (.int z), .va (.int (1 + y)), .va (.int t)]) m3 (fin P) := by
    rw [triF_seq, triF_if]
    simp only [tri_t2, tri_gVar, tri_fC]
    refine ⟨_, rfl, ?_⟩
    rw [tri_eqI, tri_asB]
    split
    · rw [triF_ret]
      simp only [tri_fNew, tri_lDis, tri_aC, tri_f2, tri_fL, tri_gVar, tri_fC, tri_aN]
      refine ⟨_, rfl, _, rfl, ?_⟩
      rw [tri_add, tri_int, tri_mod]
      refine ⟨by omega, _, rfl, by simp, ?_⟩
      rw [aft_rt, fin_rt, eu]
      exact hP m3 u ww s3 (by omega) (by omega) (.inl (by omega))
    rw [triF_nx, aft_nx, triF_seq, triF_if]
    simp only [tri_t2, tri_gVar, tri_fC]
    refine ⟨_, rfl, ?_⟩
    rw [tri_eqI, tri_asB]
    split
    · rw [triF_ret]
      simp only [tri_fNew, tri_lDis, tri_aC, tri_f2, tri_fL, tri_gVar, tri_fC, tri_aN]
      refine ⟨_, rfl, _, rfl, _, rfl, ?_⟩
      rw [tri_add, tri_int, tri_mod]
      refine ⟨by omega, by simp, ?_⟩
      rw [aft_rt, fin_rt, e2w]
      exact hP m3 hh v s3 (by omega) (by omega) (.inr (by omega))
    rw [triF_nx, aft_nx, triF_ret]
    simp only [tri_fNew, tri_lDis, tri_aC, tri_f2, tri_fL, tri_gVar, tri_fC, tri_aN]
    refine ⟨_, rfl, _, rfl, ?_⟩
    rw [tri_add, tri_int, tri_mod]
    refine ⟨by omega, _, rfl, by simp, ?_⟩
    rw [fin_rt, eu, eo]
    exact hP m3 u o s3 (by omega) (by omega) (.inl (by omega))
  by_cases e0 : t = 0
  · rw [decide_eq_true e0, if_pos rfl]
    refine ⟨_, rfl, _, rfl, ?_⟩
    rw [tri_neI, tri_asB]
    by_cases e1 : (hh : Int) = ww
    · rw [decide_eq_true e1]
      simp only [Bool.not_true, Bool.false_eq_true, if_false, triF_nx]
      rw [aft_nx]
      exact rest
    · rw [decide_eq_false e1]
      simp only [Bool.not_false, if_true, triF_ret, tri_fNew, tri_lDis, tri_aC, tri_gVar, tri_aN]
      exact ⟨_, rfl, _, rfl, by simp, hP m3 ww hh s3 w0 h0 (.inl (by omega))⟩
  · rw [decide_eq_false e0]
    simp only [Bool.false_eq_true, if_false, triF_nx]
    rw [aft_nx]
    exact rest
theorem lone_at {fs : List (Str × D)} (hP : P (.bl true) m) : Tri (den__law_lone [.exc "UnlikeSizes" fs]) m P := by
  have hv : ∀ {ρ : EV}, ρ[0]? = some (some (.exc "UnlikeSizes" fs)) → Tri (gVar 0 ρ) m fun d' m' => d' = .exc "UnlikeSizes" fs ∧ m' = m := fun {ρ} h => by
    rw [tri_gVar]; exact ⟨_, h, rfl, rfl⟩
  unfold den__law_lone
  rw [tri_runF]
  refine ⟨rfl, ?_⟩
  rw [triF_seq, triF_asg]
  refine tri_gIsx (hv rfl) (b := false) rfl ⟨rfl, ?_⟩
  rw [aft_nx, triF_seq, triF_asg, tri_fOr]
  simp only [tri_gVar]
  refine ⟨_, rfl, ?_⟩
  rw [tri_truB, if_neg (by simp)]
  refine tri_gIsx (hv rfl) (b := false) rfl ⟨rfl, ?_⟩
  rw [aft_nx, triF_seq, triF_asg, tri_fOr]
  simp only [tri_gVar]
  refine ⟨_, rfl, ?_⟩
  rw [tri_truB, if_neg (by simp)]
  refine tri_gIsx (hv rfl) (b := false) rfl ⟨rfl, ?_⟩
  rw [aft_nx, triF_ret, tri_fAnd, tri_fNot]
  simp only [tri_gVar]
  refine ⟨_, rfl, ?_⟩
  rw [tri_truB, tri_truB, if_pos (by simp), tri_fAnd]
  refine tri_gIsx (hv rfl) (b := true) rfl ?_
  rw [tri_truB, if_pos rfl]
  exact tri_gIsx (hv rfl) (b := true) rfl hP
theorem sizes2 {k : Nat} {c : List (List Bool)} : SameT 6 (.lst [sidesD n a, sidesD k c]) (.lst [sidesD n a, sidesD k c]) := same_lst (n := 5) (by simp) fun x hx => by
  have one : ∀ (k : Nat) (c : List (List Bool)), SameT 5 (sidesD k c) (sidesD k c) := fun k c => same_tup (n := 4) (by simp) fun x hx => by
    simp at hx
    rcases hx with e | e <;> (rw [e]; exact same_int _)
  simp at hx
  rcases hx with e | e <;> (rw [e]; exact one _ _)
theorem refused_at {v z : Nat} (hz : z < 3) (h : x.length ≠ w ∨ v ≠ a.length) (hP : P (.bl true) m) : Tri (den__law_refused [.int (z : Nat), tabD w a, tabD v x, .lst [sidesD w a, sidesD v x]]) m P := by
  unfold den__law_refused
  rw [tri_runF]
  refine ⟨rfl, ?_⟩
  rw [triF_seq]
  show TriF (gTryAs 4 _ _ _ [.va (.int (z : Nat)), .va (tabD w a), .va (tabD v x), .va (.lst [sidesD w a, sidesD v x]), .no]) m _
  generalize eρ : [Sl.va (.int (z : Nat)), .va (tabD w a), .va (tabD v x), .va (.lst [sidesD w a, sidesD v x]), .no] = ρ0
  refine triF_try_ex (c := "UnlikeSizes") (fs := unlike w a v x) (ρ1 := ρ0) (m1 := m) ?_ rfl (by subst eρ; rfl) ?_
  · have hif : ∀ (k : Int), t2 dEq (gVar 0) (fC (.int k)) (vw (allM ρ0) ρ0) m = .ok (decide ((z : Int) = k)) m := fun k => tri_exact (by
      subst eρ
      simp only [tri_t2, tri_gVar, tri_fC]
      refine ⟨_, rfl, ?_⟩
      rw [tri_eqI, tri_asB]
      exact ⟨rfl, rfl⟩)
    have one : ∀ (g : List D → M D), g [tabD w a, tabD v x] m = .err "UnlikeSizes" (unlike w a v x) m → gExp (fL g (aC (gVar 1) (aC (gVar 2) aN))) ρ0 m = .ok (.ex "UnlikeSizes" (unlike w a v x) ρ0) m := fun g hg => by
      unfold gExp
      rw [exB_run]
      have : fL g (aC (gVar 1) (aC (gVar 2) aN)) (vw [] ρ0) m = g [tabD w a, tabD v x] m := by subst eρ; rfl
      rw [this, hg]
    unfold gIf
    rw [exB_run, hif]
    by_cases e0 : z = 0
    · rw [decide_eq_true (by omega)]
      simp only [if_true]
      exact one _ (backw_err h)
    · rw [decide_eq_false (by omega)]
      simp only [Bool.false_eq_true, if_false]
      rw [exB_run, hif]
      by_cases e1 : z = 1
      · rw [decide_eq_true (by omega)]
        simp only [if_true]
        exact one _ (under_err h)
      · rw [decide_eq_false (by omega)]
        simp only [Bool.false_eq_true, if_false]
        exact one _ (leads_err h)
  · subst eρ
    have hv : ∀ {ρ : EV}, ρ[4]? = some (some (.exc "UnlikeSizes" (unlike w a v x))) → Tri (gVar 4 ρ) m fun d' m' => d' = .exc "UnlikeSizes" (unlike w a v x) ∧ m' = m := fun {ρ} h => by
      rw [tri_gVar]; exact ⟨_, h, rfl, rfl⟩
    show TriF (gRet _ [.va (.int (z : Nat)), .va (tabD w a), .va (tabD v x), .va (.lst [sidesD w a, sidesD v x]), .va (.exc "UnlikeSizes" (unlike w a v x))]) m _
    rw [triF_ret, tri_fAnd, tri_fL, tri_aC, tri_fNew, tri_lDis, tri_aC]
    refine tri_gXa (hv rfl) rfl rfl ?_
    rw [tri_aC]
    refine tri_gXa (hv rfl) rfl rfl ?_
    simp only [tri_aC, tri_gVar, tri_aN, tri_fL]
    refine ⟨by simp, _, rfl, sizes2 _ _ ?_⟩
    rw [tri_truB, if_pos rfl]
    exact ⟨_, rfl, lone_at ⟨_, rfl, by simp [D.noX, D.noXs], hP⟩⟩
end
end Hd
set_option Elab.async false
set_option linter.all false
set_option maxRecDepth 100000
set_option maxHeartbeats 4000000
namespace Hd
open PySem PySem.Spec PyProof.Rows L2 Den
theorem right_g {m : SM} {P : D → SM → Prop} {w : Nat} {a x : List (List Bool)} (hA : Rect w a) (hX : Rect a.length x) (hx : x.length = w) (hP : P (.bl true) m) : Tri (den__law_right [tabD w a, gridD a.length w a, gridD w a.length x]) m P := right_at hA hX hx hP
theorem pure_rest (ns : List Int) (h : ns.length ≤ 63) : ∃ m', rest_law (sv0 N_law.length 1 ns) ⟨ns, [0, 0, 0, 0, 314159265358, 0]⟩ = .ok (.rt (.bl true)) m' := by
  have hm : SI ⟨ns, [0, 0, 0, 0, 314159265358, 0]⟩ := ⟨0, 0, 0, 0, 314159265358, 0, rfl, by decide⟩
  have key : TriF (rest_law (sv0 N_law.length 1 ns)) ⟨ns, [0, 0, 0, 0, 314159265358, 0]⟩ fun f m' => f = .rt (.bl true) := by
    generalize (⟨ns, [0, 0, 0, 0, 314159265358, 0]⟩ : SM) = m at hm
    unfold rest_law sv0 N_law
    rw [triF_seq, triF_asg]
    simp only [tri_fL, tri_aC, tri_gVar, tri_aN, tri_fC]
    refine ⟨_, rfl, _, rfl, side_at (n := 6) hm (by omega) (by omega) fun m1 y s1 y0 y1 => ⟨_, rfl, side_at (n := 6) s1 (by omega) (by omega) fun m2 q s2 q0 q1 => ?_⟩⟩
    obtain ⟨hh, rfl⟩ := Int.eq_ofNat_of_zero_le y0
    obtain ⟨w, rfl⟩ := Int.eq_ofNat_of_zero_le q0
    refine grid_at s2 (by omega) (by omega) fun m3 d s3 hd => ⟨rfl, ?_⟩
    obtain ⟨a, la, A, ea⟩ := grid_ex hd (by omega) (by omega)
    subst ea la
    have w6 := A.wide
    have h6 := A.high
    rw [aft_nx]
    show TriF (gSeq _ _ [.va (.scr ns), .va .sto, .va (gridD a.length w a), .no, .no, .no, .no, .no, .no]) m3 _
    rw [triF_seq, triF_asg]
    simp only [tri_fL, tri_aC, tri_gVar, tri_aN]
    refine ⟨_, rfl, table_at A ⟨rfl, ?_⟩⟩
    rw [aft_nx]
    show TriF (gSeq _ _ [.va (.scr ns), .va .sto, .va (gridD a.length w a), .va (tabD w a), .no, .no, .no, .no, .no]) m3 _
    rw [triF_seq, triF_asg]
    simp only [tri_fNew, tri_lDis, tri_fL, tri_aC, tri_gVar, tri_aN]
    refine ⟨_, rfl, _, rfl, cross_at s3 hd h6 w6 fun m4 d1 s4 g1 => ?_⟩
    refine ⟨_, rfl, _, rfl, cross_at s4 hd h6 w6 fun m5 d2 s5 g2 => ?_⟩
    refine ⟨_, rfl, _, rfl, cross_at s5 hd h6 w6 fun m6 d3 s6 g3 => ⟨by simp, rfl, ?_⟩⟩
    obtain ⟨x1, l1, X1, e1⟩ := grid_ex g1 w6 h6
    obtain ⟨x2, l2, X2, e2⟩ := grid_ex g2 w6 h6
    obtain ⟨x3, l3, X3, e3⟩ := grid_ex g3 w6 h6
    subst e1 e2 e3
    have good : ∀ (d : D), d ∈ [gridD w a.length x1, gridD w a.length x2, gridD w a.length x3] → ∀ (m : SM) (P : D → SM → Prop), P (.bl true) m → Tri (den__law_right [tabD w a, gridD a.length w a, d]) m P := by
      intro d hd m P hP
      simp at hd
      rcases hd with e | e | e <;> subst e
      · exact right_g A X1 l1 hP
      · exact right_g A X2 l2 hP
      · exact right_g A X3 l3 hP
    generalize eL : [gridD w a.length x1, gridD w a.length x2, gridD w a.length x3] = L at good
    have hL : L.length = 3 := by rw [← eL]; rfl
    rw [aft_nx]
    show TriF (gSeq _ _ [.va (.scr ns), .va .sto, .va (gridD a.length w a), .va (tabD w a), .va (.lst L), .no, .no, .no, .no]) m6 _
    rw [triF_seq, triF_for]
    simp only [tri_iSeq, tri_gVar]
    refine ⟨_, rfl, ?_⟩
    rw [tri_itsL]
    refine triF_loop (fun j ρ m' => m' = m6 ∧ ∃ s5, ρ = [.va (.scr ns), .va .sto, .va (gridD a.length w a), .va (tabD w a), .va (.lst L), s5, .no, .no, .no]) _ 0 _ m6 ⟨rfl, .no, rfl⟩ (fun j d ρ m' hd' hI => ?_) (fun ρ m' hI => ?_)
    · obtain ⟨em, s5', eρ⟩ := hI
      subst em eρ
      refine ⟨_, rfl, ?_⟩
      rw [triF_if]
      simp only [tri_tNo, tri_tT, tri_fL, tri_aC, tri_gVar, tri_aN]
      refine ⟨_, rfl, _, rfl, _, rfl, good d (List.mem_of_getElem? hd') _ _ ?_⟩
      rw [tri_truB, if_neg (by simp), triF_nx]
      exact ⟨by trivial, .va d, rfl⟩
    · obtain ⟨em, s5', eρ⟩ := hI
      subst em eρ
      rw [aft_nx, triF_seq, triF_asg]
      simp only [tri_fL, tri_aC, tri_f2, tri_gVar, tri_aN, tri_fC]
      refine ⟨_, rfl, _, rfl, ix_w ⟨_, rfl, ix_h ?_⟩⟩
      refine osize_at s6 w6 h6 fun m7 p q s7 p6 q6 hne => ⟨rfl, ?_⟩
      rw [aft_nx]
      show TriF (gSeq _ _ [.va (.scr ns), .va .sto, .va (gridD a.length w a), .va (tabD w a), .va (.lst L), s5', .va (.lst [.int (p : Nat), .int (q : Nat)]), .no, .no]) m7 _
      have ix : ∀ {xs : List D} {i : Nat} {d : D} {m : SM} {P : D → SM → Prop}, xs[i]? = some d → P d m → Tri (dIx (.lst xs) (.int (i : Nat))) m P := fun {xs i d m P} h q => by
        rw [tri_ixL, Den.atI_nat]
        exact ⟨_, h, q⟩
      rw [triF_seq, triF_asg]
      simp only [tri_fL, tri_aC, tri_f2, tri_gVar, tri_aN, tri_fC]
      refine ⟨_, rfl, _, rfl, ix (i := 0) rfl ⟨_, rfl, ix (i := 1) rfl ?_⟩⟩
      refine grid_at s7 (by omega) (by omega) fun m8 ds s8 hds => ?_
      obtain ⟨xs, ls, XS, es⟩ := grid_ex hds p6 q6
      subst es ls
      refine table_at XS ⟨rfl, ?_⟩
      rw [aft_nx]
      show TriF (gSeq _ _ [.va (.scr ns), .va .sto, .va (gridD a.length w a), .va (tabD w a), .va (.lst L), s5', .va (.lst [.int (xs.length : Nat), .int (q : Nat)]), .va (tabD q xs), .no]) m8 _
      rw [triF_seq, triF_for]
      simp only [tri_iRan, tri_aC, tri_fC, tri_aN]
      refine ⟨rfl, ?_⟩
      rw [tri_range]
      refine ⟨by decide, ?_⟩
      refine triF_loop (fun j ρ m' => ∃ s8', ρ = [.va (.scr ns), .va .sto, .va (gridD a.length w a), .va (tabD w a), .va (.lst L), s5', .va (.lst [.int (xs.length : Nat), .int (q : Nat)]), .va (tabD q xs), s8']) _ 0 _ m8 ⟨.no, rfl⟩ (fun j d ρ m' hd' hI => ?_) (fun ρ m' hI => ?_)
      · obtain ⟨s8', eρ⟩ := hI
        subst eρ
        obtain ⟨hj, ed⟩ := ran_at (n := 3) hd'
        subst ed
        refine ⟨_, rfl, ?_⟩
        show TriF (gSeq _ _ [.va (.scr ns), .va .sto, .va (gridD a.length w a), .va (tabD w a), .va (.lst L), s5', .va (.lst [.int (xs.length : Nat), .int (q : Nat)]), .va (tabD q xs), .va (.int (j : Nat))]) m' _
        rw [triF_seq, triF_if]
        simp only [tri_tNo, tri_tT, tri_fL, tri_aC, tri_fNew, tri_lDis, tri_fTup, tri_f2, tri_gVar, tri_aN, tri_fC]
        refine ⟨_, rfl, _, rfl, _, rfl, _, rfl, ix_h ⟨_, rfl, ix_w ⟨by simp, ?_⟩⟩⟩
        refine ⟨_, rfl, ix (i := 0) rfl ⟨_, rfl, ix (i := 1) rfl ⟨by simp, by simp, ?_⟩⟩⟩
        refine refused_at hj hne ?_
        rw [tri_truB, if_neg (by simp), triF_nx, aft_nx, triF_if]
        simp only [tri_tNo, tri_tT, tri_fL, tri_aC, tri_f2, tri_gVar, tri_aN]
        have hjL : j < L.length := by omega
        refine ⟨_, rfl, _, rfl, _, rfl, _, rfl, ix (i := j) (List.getElem?_eq_getElem hjL) ?_⟩
        refine good _ (List.getElem_mem hjL) _ _ ?_
        rw [tri_truB, if_neg (by simp), triF_nx]
        exact ⟨.va (.int (j : Nat)), rfl⟩
      · obtain ⟨s8', eρ⟩ := hI
        subst eρ
        rw [aft_nx, triF_ret, tri_fC]
  obtain ⟨m', e⟩ := triF_run key
  exact ⟨m', e⟩
end Hd
set_option Elab.async false
set_option linter.all false
set_option maxRecDepth 100000
set_option maxHeartbeats 0
namespace Hd
open PySem PySem.Spec PyProof.Rows L2 Den
def d__law_store : He.DefD := { at_ := ("_law_store", none), name := "_law_store", qual := "_law_store", params := defArgs s__law_store, body := defBody s__law_store, scope := defScope s__law_store, dfl := [] }
def d__law_mix : He.DefD := { at_ := ("_law_mix", none), name := "_law_mix", qual := "_law_mix", params := defArgs s__law_mix, body := defBody s__law_mix, scope := defScope s__law_mix, dfl := [] }
def d__law_take : He.DefD := { at_ := ("_law_take", none), name := "_law_take", qual := "_law_take", params := defArgs s__law_take, body := defBody s__law_take, scope := defScope s__law_take, dfl := [] }
def d__law_of : He.DefD := { at_ := ("_law_of", none), name := "_law_of", qual := "_law_of", params := defArgs s__law_of, body := defBody s__law_of, scope := defScope s__law_of, dfl := [] }
def d__law_lot : He.DefD := { at_ := ("_law_lot", none), name := "_law_lot", qual := "_law_lot", params := defArgs s__law_lot, body := defBody s__law_lot, scope := defScope s__law_lot, dfl := [] }
def d__law_pick : He.DefD := { at_ := ("_law_pick", none), name := "_law_pick", qual := "_law_pick", params := defArgs s__law_pick, body := defBody s__law_pick, scope := defScope s__law_pick, dfl := [] }
def d__law_join : He.DefD := { at_ := ("_law_join", none), name := "_law_join", qual := "_law_join", params := defArgs s__law_join, body := defBody s__law_join, scope := defScope s__law_join, dfl := [] }
def d__law_twin : He.DefD := { at_ := ("_law_twin", none), name := "_law_twin", qual := "_law_twin", params := defArgs s__law_twin, body := defBody s__law_twin, scope := defScope s__law_twin, dfl := [] }
def d__law_turn : He.DefD := { at_ := ("_law_turn", none), name := "_law_turn", qual := "_law_turn", params := defArgs s__law_turn, body := defBody s__law_turn, scope := defScope s__law_turn, dfl := [] }
def d__law_shuffle : He.DefD := { at_ := ("_law_shuffle", none), name := "_law_shuffle", qual := "_law_shuffle", params := defArgs s__law_shuffle, body := defBody s__law_shuffle, scope := defScope s__law_shuffle, dfl := [] }
def d__law_units : He.DefD := { at_ := ("_law_units", none), name := "_law_units", qual := "_law_units", params := defArgs s__law_units, body := defBody s__law_units, scope := defScope s__law_units, dfl := [] }
def d__law_lots : He.DefD := { at_ := ("_law_lots", none), name := "_law_lots", qual := "_law_lots", params := defArgs s__law_lots, body := defBody s__law_lots, scope := defScope s__law_lots, dfl := [] }
def d__law_through : He.DefD := { at_ := ("_law_through", none), name := "_law_through", qual := "_law_through", params := defArgs s__law_through, body := defBody s__law_through, scope := defScope s__law_through, dfl := [] }
def d__law_behind : He.DefD := { at_ := ("_law_behind", none), name := "_law_behind", qual := "_law_behind", params := defArgs s__law_behind, body := defBody s__law_behind, scope := defScope s__law_behind, dfl := [] }
def d__law_spread : He.DefD := { at_ := ("_law_spread", none), name := "_law_spread", qual := "_law_spread", params := defArgs s__law_spread, body := defBody s__law_spread, scope := defScope s__law_spread, dfl := [] }
def d__law_placed : He.DefD := { at_ := ("_law_placed", none), name := "_law_placed", qual := "_law_placed", params := defArgs s__law_placed, body := defBody s__law_placed, scope := defScope s__law_placed, dfl := [] }
def d__law_placing : He.DefD := { at_ := ("_law_placing", none), name := "_law_placing", qual := "_law_placing", params := defArgs s__law_placing, body := defBody s__law_placing, scope := defScope s__law_placing, dfl := [] }
def d__law_order : He.DefD := { at_ := ("_law_order", none), name := "_law_order", qual := "_law_order", params := defArgs s__law_order, body := defBody s__law_order, scope := defScope s__law_order, dfl := [] }
def d__law_way : He.DefD := { at_ := ("_law_way", none), name := "_law_way", qual := "_law_way", params := defArgs s__law_way, body := defBody s__law_way, scope := defScope s__law_way, dfl := [] }
def d__law_between : He.DefD := { at_ := ("_law_between", none), name := "_law_between", qual := "_law_between", params := defArgs s__law_between, body := defBody s__law_between, scope := defScope s__law_between, dfl := [] }
def d__law_not : He.DefD := { at_ := ("_law_not", none), name := "_law_not", qual := "_law_not", params := defArgs s__law_not, body := defBody s__law_not, scope := defScope s__law_not, dfl := [] }
def d__law_unit : He.DefD := { at_ := ("_law_unit", none), name := "_law_unit", qual := "_law_unit", params := defArgs s__law_unit, body := defBody s__law_unit, scope := defScope s__law_unit, dfl := [] }
def d__law_lost : He.DefD := { at_ := ("_law_lost", none), name := "_law_lost", qual := "_law_lost", params := defArgs s__law_lost, body := defBody s__law_lost, scope := defScope s__law_lost, dfl := [] }
def d__law_rect : He.DefD := { at_ := ("_law_rect", none), name := "_law_rect", qual := "_law_rect", params := defArgs s__law_rect, body := defBody s__law_rect, scope := defScope s__law_rect, dfl := [] }
def d__law_free : He.DefD := { at_ := ("_law_free", none), name := "_law_free", qual := "_law_free", params := defArgs s__law_free, body := defBody s__law_free, scope := defScope s__law_free, dfl := [] }
def d__law_grid : He.DefD := { at_ := ("_law_grid", none), name := "_law_grid", qual := "_law_grid", params := defArgs s__law_grid, body := defBody s__law_grid, scope := defScope s__law_grid, dfl := [] }
def d__law_side : He.DefD := { at_ := ("_law_side", none), name := "_law_side", qual := "_law_side", params := defArgs s__law_side, body := defBody s__law_side, scope := defScope s__law_side, dfl := [] }
def d__is_short : He.DefD := { at_ := ("_is_short", none), name := "_is_short", qual := "_is_short", params := defArgs s__is_short, body := defBody s__is_short, scope := defScope s__is_short, dfl := [] }
def d_is_number : He.DefD := { at_ := ("is_number", none), name := "is_number", qual := "is_number", params := defArgs s_is_number, body := defBody s_is_number, scope := defScope s_is_number, dfl := [] }
def d__width_of : He.DefD := { at_ := ("_width_of", none), name := "_width_of", qual := "_width_of", params := defArgs s__width_of, body := defBody s__width_of, scope := defScope s__width_of, dfl := [] }
def d__is_row : He.DefD := { at_ := ("_is_row", none), name := "_is_row", qual := "_is_row", params := defArgs s__is_row, body := defBody s__is_row, scope := defScope s__is_row, dfl := [] }
def d_Table_init : He.DefD := { at_ := ("Table", some "__init__"), name := "__init__", qual := "Table.__init__", params := defArgs s_Table_init, body := defBody s_Table_init, scope := defScope s_Table_init, dfl := [], kwd := [("width", .non)] }
def d__law_table : He.DefD := { at_ := ("_law_table", none), name := "_law_table", qual := "_law_table", params := defArgs s__law_table, body := defBody s__law_table, scope := defScope s__law_table, dfl := [] }
def d__law_within : He.DefD := { at_ := ("_law_within", none), name := "_law_within", qual := "_law_within", params := defArgs s__law_within, body := defBody s__law_within, scope := defScope s__law_within, dfl := [] }
def d__law_greatest : He.DefD := { at_ := ("_law_greatest", none), name := "_law_greatest", qual := "_law_greatest", params := defArgs s__law_greatest, body := defBody s__law_greatest, scope := defScope s__law_greatest, dfl := [] }
def d__law_less : He.DefD := { at_ := ("_law_less", none), name := "_law_less", qual := "_law_less", params := defArgs s__law_less, body := defBody s__law_less, scope := defScope s__law_less, dfl := [] }
def d__law_flip : He.DefD := { at_ := ("_law_flip", none), name := "_law_flip", qual := "_law_flip", params := defArgs s__law_flip, body := defBody s__law_flip, scope := defScope s__law_flip, dfl := [] }
def d__law_bent_grid : He.DefD := { at_ := ("_law_bent_grid", none), name := "_law_bent_grid", qual := "_law_bent_grid", params := defArgs s__law_bent_grid, body := defBody s__law_bent_grid, scope := defScope s__law_bent_grid, dfl := [] }
def d__law_back : He.DefD := { at_ := ("_law_back", none), name := "_law_back", qual := "_law_back", params := defArgs s__law_back, body := defBody s__law_back, scope := defScope s__law_back, dfl := [] }
def d__law_cells : He.DefD := { at_ := ("_law_cells", none), name := "_law_cells", qual := "_law_cells", params := defArgs s__law_cells, body := defBody s__law_cells, scope := defScope s__law_cells, dfl := [] }
def d__law_some_way : He.DefD := { at_ := ("_law_some_way", none), name := "_law_some_way", qual := "_law_some_way", params := defArgs s__law_some_way, body := defBody s__law_some_way, scope := defScope s__law_some_way, dfl := [] }
def d__law_cross : He.DefD := { at_ := ("_law_cross", none), name := "_law_cross", qual := "_law_cross", params := defArgs s__law_cross, body := defBody s__law_cross, scope := defScope s__law_cross, dfl := [] }
def d__law_there : He.DefD := { at_ := ("_law_there", none), name := "_law_there", qual := "_law_there", params := defArgs s__law_there, body := defBody s__law_there, scope := defScope s__law_there, dfl := [] }
def d_Table_width : He.DefD := { at_ := ("Table", some "width"), name := "width", qual := "Table.width", params := defArgs s_Table_width, body := defBody s_Table_width, scope := defScope s_Table_width, dfl := [] }
def d_Table_height : He.DefD := { at_ := ("Table", some "height"), name := "height", qual := "Table.height", params := defArgs s_Table_height, body := defBody s_Table_height, scope := defScope s_Table_height, dfl := [] }
def d_Table_size : He.DefD := { at_ := ("Table", some "size"), name := "size", qual := "Table.size", params := defArgs s_Table_size, body := defBody s_Table_size, scope := defScope s_Table_size, dfl := [] }
def d_is_crosswise : He.DefD := { at_ := ("is_crosswise", none), name := "is_crosswise", qual := "is_crosswise", params := defArgs s_is_crosswise, body := defBody s_is_crosswise, scope := defScope s_is_crosswise, dfl := [] }
def d_check_crosswise : He.DefD := { at_ := ("check_crosswise", none), name := "check_crosswise", qual := "check_crosswise", params := defArgs s_check_crosswise, body := defBody s_check_crosswise, scope := defScope s_check_crosswise, dfl := [] }
def d_check_behind : He.DefD := { at_ := ("check_behind", none), name := "check_behind", qual := "check_behind", params := defArgs s_check_behind, body := defBody s_check_behind, scope := defScope s_check_behind, dfl := [] }
def d_Table_columns : He.DefD := { at_ := ("Table", some "columns"), name := "columns", qual := "Table.columns", params := defArgs s_Table_columns, body := defBody s_Table_columns, scope := defScope s_Table_columns, dfl := [] }
def d__have_middle : He.DefD := { at_ := ("_have_middle", none), name := "_have_middle", qual := "_have_middle", params := defArgs s__have_middle, body := defBody s__have_middle, scope := defScope s__have_middle, dfl := [] }
def d_Table_mul : He.DefD := { at_ := ("Table", some "__mul__"), name := "__mul__", qual := "Table.__mul__", params := defArgs s_Table_mul, body := defBody s_Table_mul, scope := defScope s_Table_mul, dfl := [] }
def d_back_and_forth : He.DefD := { at_ := ("back_and_forth", none), name := "back_and_forth", qual := "back_and_forth", params := defArgs s_back_and_forth, body := defBody s_back_and_forth, scope := defScope s_back_and_forth, dfl := [] }
def d_Table_eq : He.DefD := { at_ := ("Table", some "__eq__"), name := "__eq__", qual := "Table.__eq__", params := defArgs s_Table_eq, body := defBody s_Table_eq, scope := defScope s_Table_eq, dfl := [] }
def d_leads_back : He.DefD := { at_ := ("leads_back", none), name := "leads_back", qual := "leads_back", params := defArgs s_leads_back, body := defBody s_leads_back, scope := defScope s_leads_back, dfl := [] }
def d_check_same_size : He.DefD := { at_ := ("check_same_size", none), name := "check_same_size", qual := "check_same_size", params := defArgs s_check_same_size, body := defBody s_check_same_size, scope := defScope s_check_same_size, dfl := [] }
def d_Table_iter : He.DefD := { at_ := ("Table", some "__iter__"), name := "__iter__", qual := "Table.__iter__", params := defArgs s_Table_iter, body := defBody s_Table_iter, scope := defScope s_Table_iter, dfl := [] }
def d_is_number_pair : He.DefD := { at_ := ("is_number_pair", none), name := "is_number_pair", qual := "is_number_pair", params := defArgs s_is_number_pair, body := defBody s_is_number_pair, scope := defScope s_is_number_pair, dfl := [] }
def d_Table_getitem : He.DefD := { at_ := ("Table", some "__getitem__"), name := "__getitem__", qual := "Table.__getitem__", params := defArgs s_Table_getitem, body := defBody s_Table_getitem, scope := defScope s_Table_getitem, dfl := [] }
def d_first_outside : He.DefD := { at_ := ("first_outside", none), name := "first_outside", qual := "first_outside", params := defArgs s_first_outside, body := defBody s_first_outside, scope := defScope s_first_outside, dfl := [] }
def d_is_inside : He.DefD := { at_ := ("is_inside", none), name := "is_inside", qual := "is_inside", params := defArgs s_is_inside, body := defBody s_is_inside, scope := defScope s_is_inside, dfl := [] }
def d_is_under : He.DefD := { at_ := ("is_under", none), name := "is_under", qual := "is_under", params := defArgs s_is_under, body := defBody s_is_under, scope := defScope s_is_under, dfl := [] }
def d__law_same : He.DefD := { at_ := ("_law_same", none), name := "_law_same", qual := "_law_same", params := defArgs s__law_same, body := defBody s__law_same, scope := defScope s__law_same, dfl := [] }
def d_Table_rows : He.DefD := { at_ := ("Table", some "rows"), name := "rows", qual := "Table.rows", params := defArgs s_Table_rows, body := defBody s_Table_rows, scope := defScope s_Table_rows, dfl := [] }
def d__law_shows : He.DefD := { at_ := ("_law_shows", none), name := "_law_shows", qual := "_law_shows", params := defArgs s__law_shows, body := defBody s__law_shows, scope := defScope s__law_shows, dfl := [] }
def d__law_right : He.DefD := { at_ := ("_law_right", none), name := "_law_right", qual := "_law_right", params := defArgs s__law_right, body := defBody s__law_right, scope := defScope s__law_right, dfl := [] }
def d__law_other_size : He.DefD := { at_ := ("_law_other_size", none), name := "_law_other_size", qual := "_law_other_size", params := defArgs s__law_other_size, body := defBody s__law_other_size, scope := defScope s__law_other_size, dfl := [] }
def d__law_lone : He.DefD := { at_ := ("_law_lone", none), name := "_law_lone", qual := "_law_lone", params := defArgs s__law_lone, body := defBody s__law_lone, scope := defScope s__law_lone, dfl := [] }
def d__law_refused : He.DefD := { at_ := ("_law_refused", none), name := "_law_refused", qual := "_law_refused", params := defArgs s__law_refused, body := defBody s__law_refused, scope := defScope s__law_refused, dfl := [] }
def d_law : He.DefD := { at_ := ("law", none), name := "law", qual := "law", params := defArgs s_law, body := defBody s_law, scope := defScope s_law, dfl := [] }
abbrev s_BadPlace_init : Stmt := inClass (top 8) 0
def d_BadPlace_init : He.DefD := { at_ := ("BadPlace", some "__init__"), name := "__init__", qual := "BadPlace.__init__", params := defArgs s_BadPlace_init, body := defBody s_BadPlace_init, scope := defScope s_BadPlace_init, dfl := [] }
abbrev s_BadTable_init : Stmt := inClass (top 6) 0
def d_BadTable_init : He.DefD := { at_ := ("BadTable", some "__init__"), name := "__init__", qual := "BadTable.__init__", params := defArgs s_BadTable_init, body := defBody s_BadTable_init, scope := defScope s_BadTable_init, dfl := [] }
abbrev s_UnlikeSizes_init : Stmt := inClass (top 12) 0
def d_UnlikeSizes_init : He.DefD := { at_ := ("UnlikeSizes", some "__init__"), name := "__init__", qual := "UnlikeSizes.__init__", params := defArgs s_UnlikeSizes_init, body := defBody s_UnlikeSizes_init, scope := defScope s_UnlikeSizes_init, dfl := [] }
def fa : List He.Fa := [.glo "_law_store", .free "int", .glo "_law_mix", .glo "_law_take", .free "len", .glo "_law_of", .free "range", .free "tuple", .glo "_law_lot", .glo "_law_pick", .glo "_law_join", .free "any", .glo "_law_twin", .glo "_law_turn", .glo "_law_shuffle", .glo "_law_units", .glo "_law_lots", .glo "_law_through", .glo "_law_behind", .glo "_law_spread", .glo "_law_placed", .glo "_law_placing", .glo "_law_order", .glo "_law_way", .glo "_law_between", .glo "_law_not", .glo "_law_unit", .glo "_law_lost", .glo "_law_rect", .glo "_law_free", .glo "_law_grid", .free "min", .glo "_law_side", .glo "_is_short", .free "isinstance", .free "list", .int "SIDE" 6, .glo "is_number", .free "bool", .glo "_width_of", .glo "_is_row", .free "all", .cls "Table", .noat "Table" "_cells", .noat "Table" "_width", .free "enumerate", .glo "_law_table", .glo "Table", .mkr "Table", .glo "_law_within", .glo "_law_greatest", .glo "_law_less", .glo "_law_flip", .glo "_law_bent_grid", .glo "_law_back", .glo "_law_cells", .glo "_law_some_way", .glo "_law_cross", .glo "_law_there", .glo "is_crosswise", .glo "check_crosswise", .glo "check_behind", .glo "_have_middle", .free "zip", .glo "back_and_forth", .meth "Table" "__mul__", .glo "leads_back", .meth "Table" "__eq__", .glo "check_same_size", .free "iter", .glo "is_number_pair", .glo "first_outside", .meth "Table" "__getitem__", .meth "Table" "__iter__", .glo "is_inside", .glo "is_under", .glo "_law_same", .free "str", .glo "_law_shows", .glo "_law_right", .glo "_law_other_size", .glo "_law_lone", .glo "BadPlace", .glo "BadTable", .glo "UnlikeSizes", .glo "GreatestbackError", .glo "BadLot", .glo "NoName", .glo "NoFit", .glo "NotSquare", .glo "BadText", .glo "BadName", .glo "BadEdit", .glo "BadPaper", .glo "NotOrder", .glo "NotJoined", .glo "NotRectangular", .glo "TooMany", .glo "NoWayBack", .free "ValueError", .glo "_law_refused", .noat "UnlikeSizes" "first", .noat "UnlikeSizes" "second", .glo "law", .noat "BadPlace" "place", .noat "BadTable" "row"]
def fx : List Fx := [.prop "Table" "height", .prop "Table" "width", .prop "Table" "size", .prop "Table" "columns", .sff "Table", .inst "Table", .gfn "Table" "__getitem__", .prop "Table" "rows", .excc "BadPlace", .excc "BadTable", .excc "UnlikeSizes", .kit "BadPlace" "GreatestbackError" true, .kit "BadTable" "GreatestbackError" true, .kit "UnlikeSizes" "GreatestbackError" true, .kitb "BadPlace" true, .kitb "BadTable" true, .kitb "UnlikeSizes" true, .kita "BadPlace" ["BadPlace", "BadLot", "NoName", "NoFit", "NotSquare"] true, .kita "BadPlace" ["BadText", "BadName", "BadEdit", "BadTable", "BadPaper"] false, .kita "BadPlace" ["NotOrder", "NotJoined", "NotRectangular", "TooMany", "NoWayBack"] false, .kita "BadTable" ["BadPlace", "BadLot", "NoName", "NoFit", "NotSquare"] false, .kita "BadTable" ["BadText", "BadName", "BadEdit", "BadTable", "BadPaper"] true, .kita "BadTable" ["NotOrder", "NotJoined", "NotRectangular", "TooMany", "NoWayBack"] false, .kita "UnlikeSizes" ["BadPlace", "BadLot", "NoName", "NoFit", "NotSquare"] false, .kita "UnlikeSizes" ["BadText", "BadName", "BadEdit", "BadTable", "BadPaper"] false, .kita "UnlikeSizes" ["NotOrder", "NotJoined", "NotRectangular", "TooMany", "NoWayBack"] false, .exm "BadPlace" "UnlikeSizes" false, .exm "BadTable" "UnlikeSizes" false, .exm "UnlikeSizes" "UnlikeSizes" true, .exn "BadPlace", .exn "BadTable", .exn "UnlikeSizes"]
def fn : List He.DefD := [d__law_store, d__law_mix, d__law_take, d__law_of, d__law_lot, d__law_pick, d__law_join, d__law_twin, d__law_turn, d__law_shuffle, d__law_units, d__law_lots, d__law_through, d__law_behind, d__law_spread, d__law_placed, d__law_placing, d__law_order, d__law_way, d__law_between, d__law_not, d__law_unit, d__law_lost, d__law_rect, d__law_free, d__law_grid, d__law_side, d__is_short, d_is_number, d__width_of, d__is_row, d_Table_init, d__law_table, d__law_within, d__law_greatest, d__law_less, d__law_flip, d__law_bent_grid, d__law_back, d__law_cells, d__law_some_way, d__law_cross, d__law_there, d_is_crosswise, d_check_crosswise, d_check_behind, d__have_middle, d_Table_mul, d_back_and_forth, d_Table_eq, d_leads_back, d_check_same_size, d_Table_iter, d_is_number_pair, d_Table_getitem, d_first_outside, d_is_inside, d_is_under, d__law_same, d__law_shows, d__law_right, d__law_other_size, d__law_lone, d__law_refused, d_law, d_BadPlace_init, d_BadTable_init, d_UnlikeSizes_init]
def fg : List GetD := [("Table", "width", d_Table_width), ("Table", "height", d_Table_height), ("Table", "size", d_Table_size), ("Table", "columns", d_Table_columns), ("Table", "rows", d_Table_rows)]
def ats : List Addr := [3, 31, 51, 70, 89, 108, 127, 146, 165, 184, 203, 222, 241, 260, 279, 298, 317, 336, 345, 352, 364, 371, 378, 383, 390, 395, 555, 566, 573, 580, 587, 594, 601, 608, 613, 620, 627, 634, 641, 646, 651, 656, 661, 666, 671, 676, 681, 686, 691, 696, 701, 706, 711, 718, 725, 732, 737, 742, 749, 756, 761, 766, 771, 776, 781, 786, 791, 798, 805, 810, 817, 822, 829, 836, 843, 848, 853, 860, 867, 30, 107, 145, 221, 344, 351, 363, 370, 377, 382, 389, 394, 554, 565, 572, 579, 586, 593, 600, 607, 612, 619, 626, 633, 640, 645, 650, 655, 660, 665, 670, 675, 680, 685, 690, 695, 700, 705, 710, 717, 724, 731, 736, 741, 748, 755, 760, 765, 770, 775, 780, 785, 790, 797, 804, 809, 816, 821, 828, 835, 842, 847, 852, 859, 866, 105, 143, 219, 408, 447, 455, 463, 477, 483, 506, 513, 520, 532, 104, 142, 218, 407, 403, 446, 454, 462, 476, 482, 505, 512, 519, 531, 445, 453, 461, 475, 481]
abbrev hk : PySem.W.Hook := hookL ats fa fx fn fg
end Hd
set_option Elab.async false
set_option linter.all false
set_option maxRecDepth 100000
set_option maxHeartbeats 0
namespace Hd
open PySem PySem.Spec PyProof.Rows L2 Den
section
theorem facts {P : Program} {w : World} {K : PySem.W.Frag} {h : Heap} {mg : Str → Option Value} {f : Addr} (X : K.In h) (G : h.Ns mainGlobals mg) (hfa : mg ("law" : Str) = some (.ref f)) (c : SaysX fa fx fn fg K)
    (hst : ∀ (ns : List Int) (m : SM), ns.length ≤ 63 → first_law (ev0 N_law.length ns) m = .ok (.lst (.lst (ns.map .int) :: [0, 0, 0, 0, 314159265358, 0].map .int)) m)
    (hG : ∀ ns : List Int, ns.length ≤ 63 → ∃ m', rest_law (sv0 N_law.length 1 ns) ⟨ns, [0, 0, 0, 0, 314159265358, 0]⟩ = .ok (.rt (.bl true)) m') :
    ∃ fd : FuncData, (∀ (s : Shared) (v : Value), BindsTo s fd ⟨[v], []⟩ [("script", v)]) ∧ ∀ base : Heap, K.In base → base.Ns mainGlobals mg → FnOk P w K mg base (L2N.CX P w) 11 f fd ["script"] (spLaw K) := by
  obtain ⟨fd__law_store, F__law_store⟩ := c.def_ 0 (d := d__law_store) rfl
  obtain ⟨fd__law_mix, F__law_mix⟩ := c.def_ 1 (d := d__law_mix) rfl
  obtain ⟨fd__law_take, F__law_take⟩ := c.def_ 2 (d := d__law_take) rfl
  obtain ⟨fd__law_of, F__law_of⟩ := c.def_ 3 (d := d__law_of) rfl
  obtain ⟨fd__law_lot, F__law_lot⟩ := c.def_ 4 (d := d__law_lot) rfl
  obtain ⟨fd__law_pick, F__law_pick⟩ := c.def_ 5 (d := d__law_pick) rfl
  obtain ⟨fd__law_join, F__law_join⟩ := c.def_ 6 (d := d__law_join) rfl
  obtain ⟨fd__law_twin, F__law_twin⟩ := c.def_ 7 (d := d__law_twin) rfl
  obtain ⟨fd__law_turn, F__law_turn⟩ := c.def_ 8 (d := d__law_turn) rfl
  obtain ⟨fd__law_shuffle, F__law_shuffle⟩ := c.def_ 9 (d := d__law_shuffle) rfl
  obtain ⟨fd__law_units, F__law_units⟩ := c.def_ 10 (d := d__law_units) rfl
  obtain ⟨fd__law_lots, F__law_lots⟩ := c.def_ 11 (d := d__law_lots) rfl
  obtain ⟨fd__law_through, F__law_through⟩ := c.def_ 12 (d := d__law_through) rfl
  obtain ⟨fd__law_behind, F__law_behind⟩ := c.def_ 13 (d := d__law_behind) rfl
  obtain ⟨fd__law_spread, F__law_spread⟩ := c.def_ 14 (d := d__law_spread) rfl
  obtain ⟨fd__law_placed, F__law_placed⟩ := c.def_ 15 (d := d__law_placed) rfl
  obtain ⟨fd__law_placing, F__law_placing⟩ := c.def_ 16 (d := d__law_placing) rfl
  obtain ⟨fd__law_order, F__law_order⟩ := c.def_ 17 (d := d__law_order) rfl
  obtain ⟨fd__law_way, F__law_way⟩ := c.def_ 18 (d := d__law_way) rfl
  obtain ⟨fd__law_between, F__law_between⟩ := c.def_ 19 (d := d__law_between) rfl
  obtain ⟨fd__law_not, F__law_not⟩ := c.def_ 20 (d := d__law_not) rfl
  obtain ⟨fd__law_unit, F__law_unit⟩ := c.def_ 21 (d := d__law_unit) rfl
  obtain ⟨fd__law_lost, F__law_lost⟩ := c.def_ 22 (d := d__law_lost) rfl
  obtain ⟨fd__law_rect, F__law_rect⟩ := c.def_ 23 (d := d__law_rect) rfl
  obtain ⟨fd__law_free, F__law_free⟩ := c.def_ 24 (d := d__law_free) rfl
  obtain ⟨fd__law_grid, F__law_grid⟩ := c.def_ 25 (d := d__law_grid) rfl
  obtain ⟨fd__law_side, F__law_side⟩ := c.def_ 26 (d := d__law_side) rfl
  obtain ⟨fd__is_short, F__is_short⟩ := c.def_ 27 (d := d__is_short) rfl
  obtain ⟨fd_is_number, F_is_number⟩ := c.def_ 28 (d := d_is_number) rfl
  obtain ⟨fd__width_of, F__width_of⟩ := c.def_ 29 (d := d__width_of) rfl
  obtain ⟨fd__is_row, F__is_row⟩ := c.def_ 30 (d := d__is_row) rfl
  obtain ⟨fd_Table_init, F_Table_init⟩ := c.def_ 31 (d := d_Table_init) rfl
  obtain ⟨fd__law_table, F__law_table⟩ := c.def_ 32 (d := d__law_table) rfl
  obtain ⟨fd__law_within, F__law_within⟩ := c.def_ 33 (d := d__law_within) rfl
  obtain ⟨fd__law_greatest, F__law_greatest⟩ := c.def_ 34 (d := d__law_greatest) rfl
  obtain ⟨fd__law_less, F__law_less⟩ := c.def_ 35 (d := d__law_less) rfl
  obtain ⟨fd__law_flip, F__law_flip⟩ := c.def_ 36 (d := d__law_flip) rfl
  obtain ⟨fd__law_bent_grid, F__law_bent_grid⟩ := c.def_ 37 (d := d__law_bent_grid) rfl
  obtain ⟨fd__law_back, F__law_back⟩ := c.def_ 38 (d := d__law_back) rfl
  obtain ⟨fd__law_cells, F__law_cells⟩ := c.def_ 39 (d := d__law_cells) rfl
  obtain ⟨fd__law_some_way, F__law_some_way⟩ := c.def_ 40 (d := d__law_some_way) rfl
  obtain ⟨fd__law_cross, F__law_cross⟩ := c.def_ 41 (d := d__law_cross) rfl
  obtain ⟨fd__law_there, F__law_there⟩ := c.def_ 42 (d := d__law_there) rfl
  obtain ⟨fd_is_crosswise, F_is_crosswise⟩ := c.def_ 43 (d := d_is_crosswise) rfl
  obtain ⟨fd_check_crosswise, F_check_crosswise⟩ := c.def_ 44 (d := d_check_crosswise) rfl
  obtain ⟨fd_check_behind, F_check_behind⟩ := c.def_ 45 (d := d_check_behind) rfl
  obtain ⟨fd__have_middle, F__have_middle⟩ := c.def_ 46 (d := d__have_middle) rfl
  obtain ⟨fd_Table_mul, F_Table_mul⟩ := c.def_ 47 (d := d_Table_mul) rfl
  obtain ⟨fd_back_and_forth, F_back_and_forth⟩ := c.def_ 48 (d := d_back_and_forth) rfl
  obtain ⟨fd_Table_eq, F_Table_eq⟩ := c.def_ 49 (d := d_Table_eq) rfl
  obtain ⟨fd_leads_back, F_leads_back⟩ := c.def_ 50 (d := d_leads_back) rfl
  obtain ⟨fd_check_same_size, F_check_same_size⟩ := c.def_ 51 (d := d_check_same_size) rfl
  obtain ⟨fd_Table_iter, F_Table_iter⟩ := c.def_ 52 (d := d_Table_iter) rfl
  obtain ⟨fd_is_number_pair, F_is_number_pair⟩ := c.def_ 53 (d := d_is_number_pair) rfl
  obtain ⟨fd_Table_getitem, F_Table_getitem⟩ := c.def_ 54 (d := d_Table_getitem) rfl
  obtain ⟨fd_first_outside, F_first_outside⟩ := c.def_ 55 (d := d_first_outside) rfl
  obtain ⟨fd_is_inside, F_is_inside⟩ := c.def_ 56 (d := d_is_inside) rfl
  obtain ⟨fd_is_under, F_is_under⟩ := c.def_ 57 (d := d_is_under) rfl
  obtain ⟨fd__law_same, F__law_same⟩ := c.def_ 58 (d := d__law_same) rfl
  obtain ⟨fd__law_shows, F__law_shows⟩ := c.def_ 59 (d := d__law_shows) rfl
  obtain ⟨fd__law_right, F__law_right⟩ := c.def_ 60 (d := d__law_right) rfl
  obtain ⟨fd__law_other_size, F__law_other_size⟩ := c.def_ 61 (d := d__law_other_size) rfl
  obtain ⟨fd__law_lone, F__law_lone⟩ := c.def_ 62 (d := d__law_lone) rfl
  obtain ⟨fd__law_refused, F__law_refused⟩ := c.def_ 63 (d := d__law_refused) rfl
  obtain ⟨fd_law, F_law⟩ := c.def_ 64 (d := d_law) rfl
  obtain ⟨fd_BadPlace_init, F_BadPlace_init⟩ := c.def_ 65 (d := d_BadPlace_init) rfl
  obtain ⟨fd_BadTable_init, F_BadTable_init⟩ := c.def_ 66 (d := d_BadTable_init) rfl
  obtain ⟨fd_UnlikeSizes_init, F_UnlikeSizes_init⟩ := c.def_ 67 (d := d_UnlikeSizes_init) rfl
  obtain ⟨fd_Table_width, F_Table_width⟩ := c.getter 0 (d := ("Table", "width", d_Table_width)) rfl
  obtain ⟨fd_Table_height, F_Table_height⟩ := c.getter 1 (d := ("Table", "height", d_Table_height)) rfl
  obtain ⟨fd_Table_size, F_Table_size⟩ := c.getter 2 (d := ("Table", "size", d_Table_size)) rfl
  obtain ⟨fd_Table_columns, F_Table_columns⟩ := c.getter 3 (d := ("Table", "columns", d_Table_columns)) rfl
  obtain ⟨fd_Table_rows, F_Table_rows⟩ := c.getter 4 (d := ("Table", "rows", d_Table_rows)) rfl
  have e := hfa.symm.trans (He.glo_ok X G (c.fact 103 (f := .glo "law") rfl))
  cases e
  have bL := FunD.bindsA (ps := ["script"]) F_law fun _ _ _ _ _ _ us hl => match us, hl with | [_], _ => rfl
  refine ⟨fd_law, fun s v => bL s [v] rfl, fun base _ _ => ?_⟩
  have n_ValueError := He.free_ok X G (c.fact 99 (f := .free "ValueError") rfl)
  have n_all := He.free_ok X G (c.fact 41 (f := .free "all") rfl)
  have n_any := He.free_ok X G (c.fact 11 (f := .free "any") rfl)
  have n_bool := He.free_ok X G (c.fact 38 (f := .free "bool") rfl)
  have n_enumerate := He.free_ok X G (c.fact 45 (f := .free "enumerate") rfl)
  have n_int := He.free_ok X G (c.fact 1 (f := .free "int") rfl)
  have n_isinstance := He.free_ok X G (c.fact 34 (f := .free "isinstance") rfl)
  have n_iter := He.free_ok X G (c.fact 69 (f := .free "iter") rfl)
  have n_len := He.free_ok X G (c.fact 4 (f := .free "len") rfl)
  have n_list := He.free_ok X G (c.fact 35 (f := .free "list") rfl)
  have n_min := He.free_ok X G (c.fact 31 (f := .free "min") rfl)
  have n_range := He.free_ok X G (c.fact 6 (f := .free "range") rfl)
  have n_str := He.free_ok X G (c.fact 77 (f := .free "str") rfl)
  have n_tuple := He.free_ok X G (c.fact 7 (f := .free "tuple") rfl)
  have n_zip := He.free_ok X G (c.fact 63 (f := .free "zip") rfl)
  have v_SIDE := He.int_ok X G (c.fact 36 (f := .int "SIDE" 6) rfl)
  have fl_Table__cells : Fld K "Table" "_cells" := ⟨He.cls_ok (c.fact 42 (f := .cls "Table") rfl), He.noat_ok (c.fact 43 (f := .noat "Table" "_cells") rfl)⟩
  have fl_Table__width : Fld K "Table" "_width" := ⟨He.cls_ok (c.fact 42 (f := .cls "Table") rfl), He.noat_ok (c.fact 44 (f := .noat "Table" "_width") rfl)⟩
  have xc_BadPlace := excc_ok (c.own 8 (f := .excc "BadPlace") rfl)
  have xc_BadTable := excc_ok (c.own 9 (f := .excc "BadTable") rfl)
  have xc_UnlikeSizes := excc_ok (c.own 10 (f := .excc "UnlikeSizes") rfl)
  have em_BadPlace_UnlikeSizes := exm_ok (c.own 26 (f := .exm "BadPlace" "UnlikeSizes" false) rfl)
  have em_BadTable_UnlikeSizes := exm_ok (c.own 27 (f := .exm "BadTable" "UnlikeSizes" false) rfl)
  have em_UnlikeSizes_UnlikeSizes := exm_ok (c.own 28 (f := .exm "UnlikeSizes" "UnlikeSizes" true) rfl)
  have ki_BadPlace_GreatestbackError := kit_ok (c.own 11 (f := .kit "BadPlace" "GreatestbackError" true) rfl)
  have ki_BadTable_GreatestbackError := kit_ok (c.own 12 (f := .kit "BadTable" "GreatestbackError" true) rfl)
  have ki_UnlikeSizes_GreatestbackError := kit_ok (c.own 13 (f := .kit "UnlikeSizes" "GreatestbackError" true) rfl)
  have kb_BadPlace := kitb_ok (c.own 14 (f := .kitb "BadPlace" true) rfl)
  have kb_BadTable := kitb_ok (c.own 15 (f := .kitb "BadTable" true) rfl)
  have kb_UnlikeSizes := kitb_ok (c.own 16 (f := .kitb "UnlikeSizes" true) rfl)
  have ka_BadPlace_BadPlace_BadLot_NoName_NoFit_NotSquare := kita_ok (c.own 17 (f := .kita "BadPlace" ["BadPlace", "BadLot", "NoName", "NoFit", "NotSquare"] true) rfl)
  have ka_BadPlace_BadText_BadName_BadEdit_BadTable_BadPaper := kita_ok (c.own 18 (f := .kita "BadPlace" ["BadText", "BadName", "BadEdit", "BadTable", "BadPaper"] false) rfl)
  have ka_BadPlace_NotOrder_NotJoined_NotRectangular_TooMany_NoWayBack := kita_ok (c.own 19 (f := .kita "BadPlace" ["NotOrder", "NotJoined", "NotRectangular", "TooMany", "NoWayBack"] false) rfl)
  have ka_BadTable_BadPlace_BadLot_NoName_NoFit_NotSquare := kita_ok (c.own 20 (f := .kita "BadTable" ["BadPlace", "BadLot", "NoName", "NoFit", "NotSquare"] false) rfl)
  have ka_BadTable_BadText_BadName_BadEdit_BadTable_BadPaper := kita_ok (c.own 21 (f := .kita "BadTable" ["BadText", "BadName", "BadEdit", "BadTable", "BadPaper"] true) rfl)
  have ka_BadTable_NotOrder_NotJoined_NotRectangular_TooMany_NoWayBack := kita_ok (c.own 22 (f := .kita "BadTable" ["NotOrder", "NotJoined", "NotRectangular", "TooMany", "NoWayBack"] false) rfl)
  have ka_UnlikeSizes_BadPlace_BadLot_NoName_NoFit_NotSquare := kita_ok (c.own 23 (f := .kita "UnlikeSizes" ["BadPlace", "BadLot", "NoName", "NoFit", "NotSquare"] false) rfl)
  have ka_UnlikeSizes_BadText_BadName_BadEdit_BadTable_BadPaper := kita_ok (c.own 24 (f := .kita "UnlikeSizes" ["BadText", "BadName", "BadEdit", "BadTable", "BadPaper"] false) rfl)
  have ka_UnlikeSizes_NotOrder_NotJoined_NotRectangular_TooMany_NoWayBack := kita_ok (c.own 25 (f := .kita "UnlikeSizes" ["NotOrder", "NotJoined", "NotRectangular", "TooMany", "NoWayBack"] false) rfl)
  have na_UnlikeSizes_first : PySem.W.findIn K (.ref (He.ga K "UnlikeSizes")) "first" = some none := He.noat_ok (c.fact 101 (f := .noat "UnlikeSizes" "first") rfl)
  have na_UnlikeSizes_second : PySem.W.findIn K (.ref (He.ga K "UnlikeSizes")) "second" = some none := He.noat_ok (c.fact 102 (f := .noat "UnlikeSizes" "second") rfl)
  have gf_Table := gfn_ok (c.own 6 (f := .gfn "Table" "__getitem__") rfl)
  have sf_Table := sff_ok (c.own 4 (f := .sff "Table") rfl)
  have g_BadEdit := (He.glo_ok X G (c.fact 92 (f := .glo "BadEdit") rfl))
  have g_BadLot := (He.glo_ok X G (c.fact 86 (f := .glo "BadLot") rfl))
  have g_BadName := (He.glo_ok X G (c.fact 91 (f := .glo "BadName") rfl))
  have g_BadPaper := (He.glo_ok X G (c.fact 93 (f := .glo "BadPaper") rfl))
  have g_BadPlace := (He.glo_ok X G (c.fact 82 (f := .glo "BadPlace") rfl))
  have g_BadTable := (He.glo_ok X G (c.fact 83 (f := .glo "BadTable") rfl))
  have g_BadText := (He.glo_ok X G (c.fact 90 (f := .glo "BadText") rfl))
  have g_GreatestbackError := (He.glo_ok X G (c.fact 85 (f := .glo "GreatestbackError") rfl))
  have g_NoFit := (He.glo_ok X G (c.fact 88 (f := .glo "NoFit") rfl))
  have g_NoName := (He.glo_ok X G (c.fact 87 (f := .glo "NoName") rfl))
  have g_NoWayBack := (He.glo_ok X G (c.fact 98 (f := .glo "NoWayBack") rfl))
  have g_NotJoined := (He.glo_ok X G (c.fact 95 (f := .glo "NotJoined") rfl))
  have g_NotOrder := (He.glo_ok X G (c.fact 94 (f := .glo "NotOrder") rfl))
  have g_NotRectangular := (He.glo_ok X G (c.fact 96 (f := .glo "NotRectangular") rfl))
  have g_NotSquare := (He.glo_ok X G (c.fact 89 (f := .glo "NotSquare") rfl))
  have g_TooMany := (He.glo_ok X G (c.fact 97 (f := .glo "TooMany") rfl))
  have g_UnlikeSizes := (He.glo_ok X G (c.fact 84 (f := .glo "UnlikeSizes") rfl))
  have ic_Table := inst_ok (c.own 5 (f := .inst "Table") rfl)
  have g_Table := (He.glo_ok X G (c.fact 47 (f := .glo "Table") rfl))
  have T_BadPlace := exn_ok (c.own 29 (f := .exn "BadPlace") rfl)
  have x_BadPlace : Exn P w K mg base 1 "BadPlace" ["place"] ["self", "place"] := ⟨_, fd_BadPlace_init, (He.glo_ok X G (c.fact 82 (f := .glo "BadPlace") rfl)), T_BadPlace.1, T_BadPlace.2.1, T_BadPlace.2.2, F_BadPlace_init.bindsN fun _ _ _ _ _ _ us hl => match us, hl with | [_, _], _ => rfl, fn_oex1 F_BadPlace_init ⟨rfl, rfl, rfl, by decide +kernel, rfl, by decide +kernel, by decide +kernel⟩ T_BadPlace.1 (He.noat_ok (c.fact 104 (f := .noat "BadPlace" "place") rfl)) fun _ _ _ _ _ _ => pss_one (ps_ost (pv 0) (pv 1))⟩
  have T_BadTable := exn_ok (c.own 30 (f := .exn "BadTable") rfl)
  have x_BadTable : Exn P w K mg base 1 "BadTable" ["row"] ["self", "row"] := ⟨_, fd_BadTable_init, (He.glo_ok X G (c.fact 83 (f := .glo "BadTable") rfl)), T_BadTable.1, T_BadTable.2.1, T_BadTable.2.2, F_BadTable_init.bindsN fun _ _ _ _ _ _ us hl => match us, hl with | [_, _], _ => rfl, fn_oex1 F_BadTable_init ⟨rfl, rfl, rfl, by decide +kernel, rfl, by decide +kernel, by decide +kernel⟩ T_BadTable.1 (He.noat_ok (c.fact 105 (f := .noat "BadTable" "row") rfl)) fun _ _ _ _ _ _ => pss_one (ps_ost (pv 0) (pv 1))⟩
  have T_UnlikeSizes := exn_ok (c.own 31 (f := .exn "UnlikeSizes") rfl)
  have x_UnlikeSizes : Exn P w K mg base 1 "UnlikeSizes" ["first", "second"] ["self", "first", "second"] := ⟨_, fd_UnlikeSizes_init, (He.glo_ok X G (c.fact 84 (f := .glo "UnlikeSizes") rfl)), T_UnlikeSizes.1, T_UnlikeSizes.2.1, T_UnlikeSizes.2.2, F_UnlikeSizes_init.bindsN fun _ _ _ _ _ _ us hl => match us, hl with | [_, _, _], _ => rfl, fn_oex2 F_UnlikeSizes_init ⟨rfl, rfl, rfl, by decide +kernel, rfl, by decide +kernel, by decide +kernel⟩ T_UnlikeSizes.1 (He.noat_ok (c.fact 101 (f := .noat "UnlikeSizes" "first") rfl)) (He.noat_ok (c.fact 102 (f := .noat "UnlikeSizes" "second") rfl)) fun _ _ _ _ _ _ => pss_cons (ps_ost (pv 0) (pv 1)) (pss_one (ps_ost (pv 0) (pv 2)))⟩
  have c__law_store := ok__law_store (P := P) (w := w) (mg := mg) (base := base) F__law_store (He.glo_ok X G (c.fact 0 (f := .glo "_law_store") rfl)) n_int
  have c__law_mix := ok__law_mix (P := P) (w := w) (mg := mg) (base := base) F__law_mix (He.glo_ok X G (c.fact 2 (f := .glo "_law_mix") rfl)) n_int
  have c__law_take := ok__law_take (P := P) (w := w) (mg := mg) (base := base) F__law_take (He.glo_ok X G (c.fact 3 (f := .glo "_law_take") rfl)) c__law_mix n_int n_len
  have c__law_of := ok__law_of (P := P) (w := w) (mg := mg) (base := base) F__law_of (He.glo_ok X G (c.fact 5 (f := .glo "_law_of") rfl)) n_len n_range n_tuple
  have c__law_lot := ok__law_lot (P := P) (w := w) (mg := mg) (base := base) F__law_lot (He.glo_ok X G (c.fact 8 (f := .glo "_law_lot") rfl)) c__law_take n_range n_tuple
  have c__law_pick := ok__law_pick (P := P) (w := w) (mg := mg) (base := base) F__law_pick (He.glo_ok X G (c.fact 9 (f := .glo "_law_pick") rfl)) c__law_take n_len
  have c__law_join := ok__law_join (P := P) (w := w) (mg := mg) (base := base) F__law_join (He.glo_ok X G (c.fact 10 (f := .glo "_law_join") rfl)) n_any n_range n_tuple
  have c__law_twin := ok__law_twin (P := P) (w := w) (mg := mg) (base := base) F__law_twin (He.glo_ok X G (c.fact 12 (f := .glo "_law_twin") rfl)) c__law_join c__law_lot c__law_of c__law_pick c__law_take n_range
  have c__law_turn := ok__law_turn (P := P) (w := w) (mg := mg) (base := base) F__law_turn (He.glo_ok X G (c.fact 13 (f := .glo "_law_turn") rfl)) n_range n_tuple
  have c__law_shuffle := ok__law_shuffle (P := P) (w := w) (mg := mg) (base := base) F__law_shuffle (He.glo_ok X G (c.fact 14 (f := .glo "_law_shuffle") rfl)) c__law_take n_len n_range
  have c__law_units := ok__law_units (P := P) (w := w) (mg := mg) (base := base) F__law_units (He.glo_ok X G (c.fact 15 (f := .glo "_law_units") rfl)) c__law_lot c__law_shuffle n_range
  have c__law_lots := ok__law_lots (P := P) (w := w) (mg := mg) (base := base) F__law_lots (He.glo_ok X G (c.fact 16 (f := .glo "_law_lots") rfl)) n_range n_tuple
  have cf__law_lots := okF__law_lots (P := P) (w := w) (mg := mg) (base := base) F__law_lots (He.glo_ok X G (c.fact 16 (f := .glo "_law_lots") rfl)) n_range n_tuple
  have c__law_through := ok__law_through (P := P) (w := w) (mg := mg) (base := base) F__law_through (He.glo_ok X G (c.fact 17 (f := .glo "_law_through") rfl)) c__law_join
  have c__law_behind := ok__law_behind (P := P) (w := w) (mg := mg) (base := base) F__law_behind (He.glo_ok X G (c.fact 18 (f := .glo "_law_behind") rfl)) c__law_lots c__law_of c__law_through
  have c__law_spread := ok__law_spread (P := P) (w := w) (mg := mg) (base := base) F__law_spread (He.glo_ok X G (c.fact 19 (f := .glo "_law_spread") rfl)) c__law_behind c__law_of c__law_turn c__law_units
  have c__law_placed := ok__law_placed (P := P) (w := w) (mg := mg) (base := base) F__law_placed (He.glo_ok X G (c.fact 20 (f := .glo "_law_placed") rfl)) c__law_of n_len n_range n_tuple
  have c__law_placing := ok__law_placing (P := P) (w := w) (mg := mg) (base := base) F__law_placing (He.glo_ok X G (c.fact 21 (f := .glo "_law_placing") rfl)) c__law_shuffle c__law_take n_int n_range n_tuple
  have c__law_order := ok__law_order (P := P) (w := w) (mg := mg) (base := base) F__law_order (He.glo_ok X G (c.fact 22 (f := .glo "_law_order") rfl)) c__law_join c__law_lot c__law_of c__law_placed c__law_placing c__law_take n_range n_tuple
  have c__law_way := ok__law_way (P := P) (w := w) (mg := mg) (base := base) F__law_way (He.glo_ok X G (c.fact 23 (f := .glo "_law_way") rfl)) c__law_order c__law_spread
  have c__law_between := ok__law_between (P := P) (w := w) (mg := mg) (base := base) F__law_between (He.glo_ok X G (c.fact 24 (f := .glo "_law_between") rfl)) c__law_take
  have c__law_not := ok__law_not (P := P) (w := w) (mg := mg) (base := base) F__law_not (He.glo_ok X G (c.fact 25 (f := .glo "_law_not") rfl)) n_tuple
  have c__law_unit := ok__law_unit (P := P) (w := w) (mg := mg) (base := base) F__law_unit (He.glo_ok X G (c.fact 26 (f := .glo "_law_unit") rfl)) c__law_of n_range
  have c__law_lost := ok__law_lost (P := P) (w := w) (mg := mg) (base := base) F__law_lost (He.glo_ok X G (c.fact 27 (f := .glo "_law_lost") rfl)) c__law_not c__law_of c__law_pick c__law_spread c__law_turn c__law_unit
  have c__law_rect := ok__law_rect (P := P) (w := w) (mg := mg) (base := base) F__law_rect (He.glo_ok X G (c.fact 28 (f := .glo "_law_rect") rfl)) c__law_of c__law_take n_range n_tuple
  have c__law_free := ok__law_free (P := P) (w := w) (mg := mg) (base := base) F__law_free (He.glo_ok X G (c.fact 29 (f := .glo "_law_free") rfl)) c__law_of c__law_take n_range n_tuple
  have c__law_grid := ok__law_grid (P := P) (w := w) (mg := mg) (base := base) F__law_grid (He.glo_ok X G (c.fact 30 (f := .glo "_law_grid") rfl)) c__law_between c__law_free c__law_lost c__law_of c__law_rect c__law_take c__law_turn c__law_twin c__law_way n_min n_range n_tuple
  have c__law_side := ok__law_side (P := P) (w := w) (mg := mg) (base := base) F__law_side (He.glo_ok X G (c.fact 32 (f := .glo "_law_side") rfl)) c__law_take n_min
  have c__is_short := ok__is_short (P := P) (w := w) (mg := mg) (base := base) F__is_short (He.glo_ok X G (c.fact 33 (f := .glo "_is_short") rfl)) n_isinstance n_len n_list n_tuple v_SIDE
  have c_is_number := ok_is_number (P := P) (w := w) (mg := mg) (base := base) F_is_number (He.glo_ok X G (c.fact 37 (f := .glo "is_number") rfl)) n_bool n_int n_isinstance
  have c__width_of := ok__width_of (P := P) (w := w) (mg := mg) (base := base) F__width_of (He.glo_ok X G (c.fact 39 (f := .glo "_width_of") rfl)) c__is_short c_is_number x_BadTable n_len v_SIDE
  have c__is_row := ok__is_row (P := P) (w := w) (mg := mg) (base := base) F__is_row (He.glo_ok X G (c.fact 40 (f := .glo "_is_row") rfl)) c__is_short n_all n_bool n_isinstance n_len
  have o_Table_init := ok_Table_init (P := P) (w := w) (mg := mg) (base := base) F_Table_init c__is_row c__width_of fl_Table__cells fl_Table__width x_BadTable n_enumerate n_tuple
  have mk_Table : Mkr P w K mg base 4 "Table" "Table.__init__" (defArgs s_Table_init) (defBody s_Table_init) (defScope s_Table_init) [("width", .non)] ["self", "rows", "width"] deni_Table_init := ⟨_, fd_Table_init, (He.glo_ok X G (c.fact 47 (f := .glo "Table") rfl)), He.mkr_ok (c.fact 48 (f := .mkr "Table") rfl), F_Table_init, o_Table_init⟩
  have c__law_table := ok__law_table (P := P) (w := w) (mg := mg) (base := base) F__law_table (He.glo_ok X G (c.fact 46 (f := .glo "_law_table") rfl)) mk_Table
  have c__law_within := ok__law_within (P := P) (w := w) (mg := mg) (base := base) F__law_within (He.glo_ok X G (c.fact 49 (f := .glo "_law_within") rfl)) n_all
  have c__law_greatest := ok__law_greatest (P := P) (w := w) (mg := mg) (base := base) F__law_greatest (He.glo_ok X G (c.fact 50 (f := .glo "_law_greatest") rfl)) c__law_lots c__law_of c__law_within n_all n_range n_tuple
  have c__law_less := ok__law_less (P := P) (w := w) (mg := mg) (base := base) F__law_less (He.glo_ok X G (c.fact 51 (f := .glo "_law_less") rfl)) n_tuple
  have c__law_flip := ok__law_flip (P := P) (w := w) (mg := mg) (base := base) F__law_flip (He.glo_ok X G (c.fact 52 (f := .glo "_law_flip") rfl)) c__law_join c__law_less c__law_of cf__law_lots
  have c__law_bent_grid := ok__law_bent_grid (P := P) (w := w) (mg := mg) (base := base) F__law_bent_grid (He.glo_ok X G (c.fact 53 (f := .glo "_law_bent_grid") rfl)) c__law_flip c__law_take n_int
  have c__law_back := ok__law_back (P := P) (w := w) (mg := mg) (base := base) F__law_back (He.glo_ok X G (c.fact 54 (f := .glo "_law_back") rfl)) c__law_behind
  have c__law_cells := ok__law_cells (P := P) (w := w) (mg := mg) (base := base) F__law_cells (He.glo_ok X G (c.fact 55 (f := .glo "_law_cells") rfl)) n_range
  have c__law_some_way := ok__law_some_way (P := P) (w := w) (mg := mg) (base := base) F__law_some_way (He.glo_ok X G (c.fact 56 (f := .glo "_law_some_way") rfl)) c__law_back c__law_cells c__law_flip c__law_greatest c__law_take
  have c__law_cross := ok__law_cross (P := P) (w := w) (mg := mg) (base := base) F__law_cross (He.glo_ok X G (c.fact 57 (f := .glo "_law_cross") rfl)) c__law_bent_grid c__law_greatest c__law_grid c__law_some_way c__law_take
  have c__law_there := ok__law_there (P := P) (w := w) (mg := mg) (base := base) F__law_there (He.glo_ok X G (c.fact 58 (f := .glo "_law_there") rfl)) c__law_cells c__law_join c__law_lots c__law_of n_len n_range
  have o_Table_width := ok_Table_width (P := P) (w := w) (mg := mg) (base := base) F_Table_width fl_Table__width
  have p_Table_width : Prp P w K mg base 1 "Table" "width" ["self"] den_Table_width := ⟨⟨_, _, fd_Table_width, prop_ok (c.own 1 (f := .prop "Table" "width") rfl), o_Table_width.1, o_Table_width.2⟩, He.cls_ok (c.fact 42 (f := .cls "Table") rfl)⟩
  have o_Table_height := ok_Table_height (P := P) (w := w) (mg := mg) (base := base) F_Table_height fl_Table__cells n_len
  have p_Table_height : Prp P w K mg base 1 "Table" "height" ["self"] den_Table_height := ⟨⟨_, _, fd_Table_height, prop_ok (c.own 0 (f := .prop "Table" "height") rfl), o_Table_height.1, o_Table_height.2⟩, He.cls_ok (c.fact 42 (f := .cls "Table") rfl)⟩
  have o_Table_size := ok_Table_size (P := P) (w := w) (mg := mg) (base := base) F_Table_size p_Table_height p_Table_width
  have p_Table_size : Prp P w K mg base 3 "Table" "size" ["self"] den_Table_size := ⟨⟨_, _, fd_Table_size, prop_ok (c.own 2 (f := .prop "Table" "size") rfl), o_Table_size.1, o_Table_size.2⟩, He.cls_ok (c.fact 42 (f := .cls "Table") rfl)⟩
  have c_is_crosswise := ok_is_crosswise (P := P) (w := w) (mg := mg) (base := base) F_is_crosswise (He.glo_ok X G (c.fact 59 (f := .glo "is_crosswise") rfl)) p_Table_height p_Table_size p_Table_width
  have c_check_crosswise := ok_check_crosswise (P := P) (w := w) (mg := mg) (base := base) F_check_crosswise (He.glo_ok X G (c.fact 60 (f := .glo "check_crosswise") rfl)) c_is_crosswise p_Table_size x_UnlikeSizes
  have c_check_behind := ok_check_behind (P := P) (w := w) (mg := mg) (base := base) F_check_behind (He.glo_ok X G (c.fact 61 (f := .glo "check_behind") rfl)) p_Table_height p_Table_size p_Table_width x_UnlikeSizes
  have o_Table_columns := ok_Table_columns (P := P) (w := w) (mg := mg) (base := base) F_Table_columns fl_Table__cells fl_Table__width n_range
  have p_Table_columns : Prp P w K mg base 1 "Table" "columns" ["self"] den_Table_columns := ⟨⟨_, _, fd_Table_columns, prop_ok (c.own 3 (f := .prop "Table" "columns") rfl), o_Table_columns.1, o_Table_columns.2⟩, He.cls_ok (c.fact 42 (f := .cls "Table") rfl)⟩
  have c__have_middle := ok__have_middle (P := P) (w := w) (mg := mg) (base := base) F__have_middle (He.glo_ok X G (c.fact 62 (f := .glo "_have_middle") rfl)) n_any n_zip
  have o_Table_mul := ok_Table_mul (P := P) (w := w) (mg := mg) (base := base) F_Table_mul c__have_middle c_check_behind p_Table_columns p_Table_width mk_Table fl_Table__cells
  have m_Table_mul : Mth P w K mg base 6 "Table" "__mul__" ["self", "other"] den_Table_mul := ⟨_, fd_Table_mul, He.meth_ok (c.fact 65 (f := .meth "Table" "__mul__") rfl), o_Table_mul.1, o_Table_mul.2⟩
  have c_back_and_forth := ok_back_and_forth (P := P) (w := w) (mg := mg) (base := base) F_back_and_forth (He.glo_ok X G (c.fact 64 (f := .glo "back_and_forth") rfl)) c_check_crosswise m_Table_mul sf_Table
  have o_Table_eq := ok_Table_eq (P := P) (w := w) (mg := mg) (base := base) F_Table_eq fl_Table__cells fl_Table__width ic_Table g_Table n_isinstance
  have m_Table_eq : Mth P w K mg base 1 "Table" "__eq__" ["self", "other"] den_Table_eq := ⟨_, fd_Table_eq, He.meth_ok (c.fact 67 (f := .meth "Table" "__eq__") rfl), o_Table_eq.1, o_Table_eq.2⟩
  have c_leads_back := ok_leads_back (P := P) (w := w) (mg := mg) (base := base) F_leads_back (He.glo_ok X G (c.fact 66 (f := .glo "leads_back") rfl)) c_back_and_forth m_Table_eq
  have c_check_same_size := ok_check_same_size (P := P) (w := w) (mg := mg) (base := base) F_check_same_size (He.glo_ok X G (c.fact 68 (f := .glo "check_same_size") rfl)) p_Table_size x_UnlikeSizes
  have o_Table_iter := ok_Table_iter (P := P) (w := w) (mg := mg) (base := base) F_Table_iter fl_Table__cells n_iter
  have mi_Table : MthI P w K mg base 1 "Table" "__iter__" ["self"] den_Table_iter := ⟨_, fd_Table_iter, He.meth_ok (c.fact 73 (f := .meth "Table" "__iter__") rfl), o_Table_iter.1, o_Table_iter.2⟩
  have c_is_number_pair := ok_is_number_pair (P := P) (w := w) (mg := mg) (base := base) F_is_number_pair (He.glo_ok X G (c.fact 70 (f := .glo "is_number_pair") rfl)) c_is_number n_isinstance n_len n_tuple
  have o_Table_getitem := ok_Table_getitem (P := P) (w := w) (mg := mg) (base := base) F_Table_getitem c_is_number_pair p_Table_size fl_Table__cells x_BadPlace
  have m_Table_getitem : Mth P w K mg base 5 "Table" "__getitem__" ["self", "at"] den_Table_getitem := ⟨_, fd_Table_getitem, He.meth_ok (c.fact 72 (f := .meth "Table" "__getitem__") rfl), o_Table_getitem.1, o_Table_getitem.2⟩
  have c_first_outside := ok_first_outside (P := P) (w := w) (mg := mg) (base := base) F_first_outside (He.glo_ok X G (c.fact 71 (f := .glo "first_outside") rfl)) c_check_same_size m_Table_getitem mi_Table gf_Table n_enumerate
  have c_is_inside := ok_is_inside (P := P) (w := w) (mg := mg) (base := base) F_is_inside (He.glo_ok X G (c.fact 74 (f := .glo "is_inside") rfl)) c_first_outside
  have c_is_under := ok_is_under (P := P) (w := w) (mg := mg) (base := base) F_is_under (He.glo_ok X G (c.fact 75 (f := .glo "is_under") rfl)) c_back_and_forth c_is_inside
  have c__law_same := ok__law_same (P := P) (w := w) (mg := mg) (base := base) F__law_same (He.glo_ok X G (c.fact 76 (f := .glo "_law_same") rfl)) n_all n_bool n_int n_isinstance n_len n_list n_range n_str n_tuple 6
  have cX__law_same := okX__law_same (P := P) (w := w) (mg := mg) (base := base) F__law_same (He.glo_ok X G (c.fact 76 (f := .glo "_law_same") rfl)) n_all n_bool n_int n_isinstance n_len n_list n_range n_str n_tuple 6
  have o_Table_rows := ok_Table_rows (P := P) (w := w) (mg := mg) (base := base) F_Table_rows fl_Table__cells n_list
  have p_Table_rows : Prp P w K mg base 1 "Table" "rows" ["self"] den_Table_rows := ⟨⟨_, _, fd_Table_rows, prop_ok (c.own 7 (f := .prop "Table" "rows") rfl), o_Table_rows.1, o_Table_rows.2⟩, He.cls_ok (c.fact 42 (f := .cls "Table") rfl)⟩
  have c__law_shows := ok__law_shows (P := P) (w := w) (mg := mg) (base := base) F__law_shows (He.glo_ok X G (c.fact 78 (f := .glo "_law_shows") rfl)) c__law_same p_Table_height p_Table_rows p_Table_width ic_Table g_Table n_isinstance
  have c__law_right := ok__law_right (P := P) (w := w) (mg := mg) (base := base) F__law_right (He.glo_ok X G (c.fact 79 (f := .glo "_law_right") rfl)) c__law_cells c__law_same c__law_shows c__law_table c__law_there c_back_and_forth c_is_under c_leads_back n_all
  have c__law_other_size := ok__law_other_size (P := P) (w := w) (mg := mg) (base := base) F__law_other_size (He.glo_ok X G (c.fact 80 (f := .glo "_law_other_size") rfl)) c__law_take n_int
  have c__law_lone := ok__law_lone (P := P) (w := w) (mg := mg) (base := base) F__law_lone (He.glo_ok X G (c.fact 81 (f := .glo "_law_lone") rfl)) xc_BadPlace xc_BadTable xc_UnlikeSizes ki_BadPlace_GreatestbackError ki_BadTable_GreatestbackError ki_UnlikeSizes_GreatestbackError kb_BadPlace kb_BadTable kb_UnlikeSizes ka_BadPlace_BadPlace_BadLot_NoName_NoFit_NotSquare ka_BadPlace_BadText_BadName_BadEdit_BadTable_BadPaper ka_BadPlace_NotOrder_NotJoined_NotRectangular_TooMany_NoWayBack ka_BadTable_BadPlace_BadLot_NoName_NoFit_NotSquare ka_BadTable_BadText_BadName_BadEdit_BadTable_BadPaper ka_BadTable_NotOrder_NotJoined_NotRectangular_TooMany_NoWayBack ka_UnlikeSizes_BadPlace_BadLot_NoName_NoFit_NotSquare ka_UnlikeSizes_BadText_BadName_BadEdit_BadTable_BadPaper ka_UnlikeSizes_NotOrder_NotJoined_NotRectangular_TooMany_NoWayBack g_BadEdit g_BadLot g_BadName g_BadPaper g_BadPlace g_BadTable g_BadText g_GreatestbackError g_NoFit g_NoName g_NoWayBack g_NotJoined g_NotOrder g_NotRectangular g_NotSquare g_TooMany n_ValueError n_isinstance
  have cX__law_lone := okX__law_lone (P := P) (w := w) (mg := mg) (base := base) F__law_lone (He.glo_ok X G (c.fact 81 (f := .glo "_law_lone") rfl)) xc_BadPlace xc_BadTable xc_UnlikeSizes ki_BadPlace_GreatestbackError ki_BadTable_GreatestbackError ki_UnlikeSizes_GreatestbackError kb_BadPlace kb_BadTable kb_UnlikeSizes ka_BadPlace_BadPlace_BadLot_NoName_NoFit_NotSquare ka_BadPlace_BadText_BadName_BadEdit_BadTable_BadPaper ka_BadPlace_NotOrder_NotJoined_NotRectangular_TooMany_NoWayBack ka_BadTable_BadPlace_BadLot_NoName_NoFit_NotSquare ka_BadTable_BadText_BadName_BadEdit_BadTable_BadPaper ka_BadTable_NotOrder_NotJoined_NotRectangular_TooMany_NoWayBack ka_UnlikeSizes_BadPlace_BadLot_NoName_NoFit_NotSquare ka_UnlikeSizes_BadText_BadName_BadEdit_BadTable_BadPaper ka_UnlikeSizes_NotOrder_NotJoined_NotRectangular_TooMany_NoWayBack g_BadEdit g_BadLot g_BadName g_BadPaper g_BadPlace g_BadTable g_BadText g_GreatestbackError g_NoFit g_NoName g_NoWayBack g_NotJoined g_NotOrder g_NotRectangular g_NotSquare g_TooMany n_ValueError n_isinstance
  have c__law_refused := ok__law_refused (P := P) (w := w) (mg := mg) (base := base) F__law_refused (He.glo_ok X G (c.fact 100 (f := .glo "_law_refused") rfl)) c_back_and_forth c_is_under c_leads_back xc_UnlikeSizes em_BadPlace_UnlikeSizes em_BadTable_UnlikeSizes em_UnlikeSizes_UnlikeSizes na_UnlikeSizes_first na_UnlikeSizes_second g_UnlikeSizes cX__law_lone cX__law_same
  exact ok_law (P := P) (w := w) (mg := mg) (base := base) F_law c__law_cross c__law_grid c__law_other_size c__law_refused c__law_right c__law_side c__law_store c__law_table n_range hst hG
end
end Hd
set_option Elab.async false
set_option linter.all false
set_option maxRecDepth 100000
set_option maxHeartbeats 0
open PySem PySem.W PySem.Calls PyProof.Rows
theorem PySem.Challenge.cw_greatestback_k35_back_and_forth_holds : PySem.Challenge.rw_greatestback_k35_back_and_forth.Holds := by
  w_on; o_law
  o_head Hd.hk
  case hw => w_witness2
  case hc =>
    refine Den.walk_X (law := PySem.Challenge.rw_greatestback_k35_back_and_forth) (most := 63) (lev := 11) (par := "script") (Cx0 := fun w => L2N.CX (PySem.Challenge.rw_greatestback_k35_back_and_forth).prog w) rfl (by decide) (by kernel_rfl) ⟨rfl, by decide, by decide⟩ ?F (fun w H st e st' z => Den.no_CX w H st e st' z)
    intro w mg fl hp Y G hm
    obtain ⟨K, KX, c⟩ := Y
    have hmg : mg ("law" : PySem.Str) = some (.ref fl) := hm
    obtain ⟨fd, hb, hF⟩ := Hd.facts (P := (PySem.Challenge.rw_greatestback_k35_back_and_forth).prog) (w := w) KX G hmg c Hd.pure_first Hd.pure_rest
    exact ⟨K, fd, Den.spLaw K, KX, hb, fun H ad nums hl hO hS => ⟨ad, nums, rfl, hl, hO, hS, fun _ => rfl⟩, hF⟩
